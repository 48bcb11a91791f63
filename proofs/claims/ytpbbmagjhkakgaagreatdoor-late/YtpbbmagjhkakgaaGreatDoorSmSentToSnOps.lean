import Derived.Test.YtpbbmagjhkakgaaGreatDoorSnSemToPureLoose
import Derived.Test.YtpbbmagjhkakgaaGreatDoorSnInvToRowKeep
import Derived.ChangeSlices
namespace Go.Proofs.YtpbbmagjhkakgaaGreatDoor.Ev
open Go.Deep (BT)
def notX (x:BT Pay):BT Pay:=mk 172 ByteArray.empty 0 0 x .nil
def andX (x y:BT Pay):BT Pay:=mk 8743 ByteArray.empty 0 0 x y
def orX (x y:BT Pay):BT Pay:=mk 8744 ByteArray.empty 0 0 x y
def opX (op a b:Int) (x:BT Pay):BT Pay:=mk op ByteArray.empty a b x .nil
def sinceX (a b:Int) (x y:BT Pay):BT Pay:=mk 83 ByteArray.empty a b x y
def twoX (op:Int) (x y:BT Pay):BT Pay:=mk op ByteArray.empty 0 0 x y
def wordX (s:ByteArray):BT Pay:=mk 97 s 0 0 .nil .nil
def notL (l:List UInt8):List UInt8:=[33]++l
def opL (c:UInt8) (a b:Int) (l:List UInt8):List UInt8:=[c]++(winW a b++l)
def twoL (c:UInt8) (l r:List UInt8):List UInt8:=[40]++(l++([32]++([c]++([32]++(r++[41])))))
def sinceL (a b:Int) (l r:List UInt8):List UInt8:=[40]++(l++([32]++([83]++(winW a b++(r++[41])))))
structure Made where
 txt:List UInt8
 x:BT Pay
 next:Nat
def ltrN (k:Int):Nat:=(pickZ k 3).toNat
def sentF (R:List Int):Nat->Nat->Made
 | 0,i=>⟨(ltrB (ltrN (pickZ (R.getD i 0) 12))).data.toList,wordX (ltrB (ltrN (pickZ (R.getD i 0) 12))),i+1⟩
 | d+1,i =>
  if pickZ (R.getD i 0) 12<2\/R.length<i+1 then ⟨(ltrB (ltrN (pickZ (R.getD i 0) 12))).data.toList,wordX (ltrB (ltrN (pickZ (R.getD i 0) 12))),i+1⟩
  else if pickZ (R.getD i 0) 12<4 then ⟨notL (sentF R d (i+1)).txt,notX (sentF R d (i+1)).x,(sentF R d (i+1)).next⟩
  else if pickZ (R.getD i 0) 12=4 then ⟨opL 89 (pickZ (R.getD (sentF R d (i+1)).next 0) 5) (pickZ (R.getD (sentF R d (i+1)).next 0) 5+pickZ (R.getD ((sentF R d (i+1)).next+1) 0) 5) (sentF R d (i+1)).txt,opX 89 (pickZ (R.getD (sentF R d (i+1)).next 0) 5) (pickZ (R.getD (sentF R d (i+1)).next 0) 5+pickZ (R.getD ((sentF R d (i+1)).next+1) 0) 5) (sentF R d (i+1)).x,(sentF R d (i+1)).next+2⟩
  else if pickZ (R.getD i 0) 12<7 then ⟨opL 79 (pickZ (R.getD (sentF R d (i+1)).next 0) 5) (pickZ (R.getD (sentF R d (i+1)).next 0) 5+pickZ (R.getD ((sentF R d (i+1)).next+1) 0) 5) (sentF R d (i+1)).txt,opX 79 (pickZ (R.getD (sentF R d (i+1)).next 0) 5) (pickZ (R.getD (sentF R d (i+1)).next 0) 5+pickZ (R.getD ((sentF R d (i+1)).next+1) 0) 5) (sentF R d (i+1)).x,(sentF R d (i+1)).next+2⟩
  else if pickZ (R.getD i 0) 12=7 then ⟨opL 72 (pickZ (R.getD (sentF R d (i+1)).next 0) 5) (pickZ (R.getD (sentF R d (i+1)).next 0) 5+pickZ (R.getD ((sentF R d (i+1)).next+1) 0) 5) (sentF R d (i+1)).txt,opX 72 (pickZ (R.getD (sentF R d (i+1)).next 0) 5) (pickZ (R.getD (sentF R d (i+1)).next 0) 5+pickZ (R.getD ((sentF R d (i+1)).next+1) 0) 5) (sentF R d (i+1)).x,(sentF R d (i+1)).next+2⟩
  else if pickZ (R.getD i 0) 12<10 then ⟨sinceL (pickZ (R.getD (sentF R d (i+1)).next 0) 5) (pickZ (R.getD (sentF R d (i+1)).next 0) 5+pickZ (R.getD ((sentF R d (i+1)).next+1) 0) 5) (sentF R d (i+1)).txt (sentF R d ((sentF R d (i+1)).next+2)).txt,sinceX (pickZ (R.getD (sentF R d (i+1)).next 0) 5) (pickZ (R.getD (sentF R d (i+1)).next 0) 5+pickZ (R.getD ((sentF R d (i+1)).next+1) 0) 5) (sentF R d (i+1)).x (sentF R d ((sentF R d (i+1)).next+2)).x,(sentF R d ((sentF R d (i+1)).next+2)).next⟩
  else if pickZ (R.getD i 0) 12=10 then ⟨twoL 38 (sentF R d (i+1)).txt (sentF R d (sentF R d (i+1)).next).txt,andX (sentF R d (i+1)).x (sentF R d (sentF R d (i+1)).next).x,(sentF R d (sentF R d (i+1)).next).next⟩
  else ⟨twoL 124 (sentF R d (i+1)).txt (sentF R d (sentF R d (i+1)).next).txt,orX (sentF R d (i+1)).x (sentF R d (sentF R d (i+1)).next).x,(sentF R d (sentF R d (i+1)).next).next⟩
structure MadeOK (len dep nod:Nat) (rea:Int) (l:List UInt8) (x:BT Pay):Prop where
 reads:Reads l x
 len:l.length<=len
 dep:depthT x<=dep
 nod:nodesT (coreT x)<=nod
 rea:reachT x<=rea
theorem MadeOK.good {len dep nod:Nat} {rea:Int} {l:List UInt8} {x:BT Pay} (h:MadeOK len dep nod rea l x):Good x:=h.reads.1.1
theorem MadeOK.read {len dep nod:Nat} {rea:Int} {l:List UInt8} {x:BT Pay} (h:MadeOK len dep nod rea l x) (hl:len<=300) (hd:dep<=12) {s:ByteArray} (hs:s.data.toList=l):readF s=(some x,0):=h.reads.read (Nat.le_trans h.dep hd) (Nat.le_trans h.len hl) hs
theorem MadeOK.weaken {len dep nod:Nat} {rea:Int} {l:List UInt8} {x:BT Pay} (h:MadeOK len dep nod rea l x) {len' dep' nod':Nat} {rea':Int} (h1:len<=len') (h2:dep<=dep') (h3:nod<=nod') (h4:rea<=rea'):MadeOK len' dep' nod' rea' l x :=
 ⟨h.reads,Nat.le_trans h.len h1,Nat.le_trans h.dep h2,Nat.le_trans h.nod h3,Int.le_trans h.rea h4⟩
theorem MadeOK.not {len dep nod:Nat} {rea:Int} {l:List UInt8} {x:BT Pay} (h:MadeOK len dep nod rea l x):MadeOK (len+1) (dep+1) (nod+1) rea (notL l) (notX x):=by
 have hn:=nodes_not (coreT x)
 have ec:coreT (notX x)=notT (coreT x):=rfl
 have hd:depthT (notX x)=1+max (depthT x) 0:=rfl
 have hr:reachT (notX x)=0+max (reachT x) 0:=rfl
 have h0:=reachT_nonneg h.good.win
 exact ⟨h.reads.not,by have:=h.len;simp [notL];omega,by rw [hd];have:=h.dep;omega,by rw [ec];have:=h.nod;omega,by rw [hr];have:=h.rea;omega⟩
theorem win_len {a b:Int} (h:0<=a/\a<=b) {n:Nat} (hb:b<(10:Nat) ^ (n+1)):(winW a b).length<=2*n+5:=by
 have e1:=itoa_eq a h.1
 have e2:=itoa_eq b (by omega)
 have l1:=dec_len n a.toNat (by omega)
 have l2:=dec_len n b.toNat (by omega)
 unfold winW
 rw [e1,e2]
 simp
 omega
theorem MadeOK.op {len dep nod:Nat} {rea:Int} {l:List UInt8} {x:BT Pay} {c:UInt8} {op a b:Int} {n:Nat} (h:MadeOK len dep nod rea l x) (hc:(c=89/\op=89)\/(c=79/\op=79)\/(c=72/\op=72)) (hab:0<=a/\a<=b/\b<=1000000) (hb:b<(10:Nat) ^ (n+1)) :
  MadeOK (len+2*n+6) (dep+1) (nod+3) (rea+b) (opL c a b l) (opX op a b x):=by
 have hn:=nodes_not (coreT x)
 have hwl:=win_len ⟨hab.1,hab.2.1⟩ hb
 have hd:depthT (opX op a b x)=1+max (depthT x) 0:=rfl
 have hr:reachT (opX op a b x)=b+max (reachT x) 0:=rfl
 have h0:=reachT_nonneg h.good.win
 have ho:op=89\/op=79\/op=72:=by omega
 have hcc:c=UInt8.ofNat op.toNat:=by rcases hc with ⟨rfl,rfl⟩ | ⟨rfl,rfl⟩ | ⟨rfl,rfl⟩<;>rfl
 refine ⟨?_,by have:=h.len;simp [opL];omega,by rw [hd];have:=h.dep;omega,?_,by rw [hr];have:=h.rea;omega⟩
 ·unfold opL opX
  rw [hcc]
  exact Reads.win ho hab h.reads
 ·have hnod:=h.nod
  rcases hc with ⟨_,rfl⟩ | ⟨_,rfl⟩ | ⟨_,rfl⟩
  ·have ec:nodesT (coreT (opX 89 a b x))=nodesT (coreT x)+0+1:=rfl
   rw [ec];omega
  ·have ec:nodesT (coreT (opX 79 a b x))=nodesT (coreT x)+0+1:=rfl
   rw [ec];omega
  ·have ec:nodesT (coreT (opX 72 a b x))=(nodesT (notT (coreT x))+0+1)+0+1:=rfl
   rw [ec];omega
theorem MadeOK.two {len dep nod len2 dep2 nod2:Nat} {rea rea2:Int} {l r:List UInt8} {x y:BT Pay} {c:UInt8} {op:Int} (h:MadeOK len dep nod rea l x) (h':MadeOK len2 dep2 nod2 rea2 r y) (hc:(c=38/\op=8743)\/(c=124/\op=8744)) :
  MadeOK (len+len2+5) (max dep dep2+1) (nod+nod2+4) (max rea rea2) (twoL c l r) (twoX op x y):=by
 have hn:=nodes_not (coreT x)
 have hn2:=nodes_not (coreT y)
 have hd:depthT (twoX op x y)=1+max (depthT x) (depthT y):=rfl
 have hr:reachT (twoX op x y)=0+max (reachT x) (reachT y):=rfl
 refine ⟨Reads.two hc h.reads h'.reads,by have:=h.len;have:=h'.len;simp [twoL];omega,by rw [hd];have:=h.dep;have:=h'.dep;omega,?_,by rw [hr];have:=h.rea;have:=h'.rea;omega⟩
 have hnod:=h.nod
 have hnod2:=h'.nod
 rcases hc with ⟨_,rfl⟩ | ⟨_,rfl⟩
 ·have ec:nodesT (coreT (twoX 8743 x y))=nodesT (coreT x)+nodesT (coreT y)+1:=rfl
  rw [ec];omega
 ·have ec:nodesT (coreT (twoX 8744 x y))=(nodesT (notT (coreT x))+nodesT (notT (coreT y))+1)+0+1:=rfl
  rw [ec];omega
theorem MadeOK.since {len dep nod len2 dep2 nod2:Nat} {rea rea2:Int} {l r:List UInt8} {x y:BT Pay} {a b:Int} {n:Nat} (h:MadeOK len dep nod rea l x) (h':MadeOK len2 dep2 nod2 rea2 r y) (hab:0<=a/\a<=b/\b<=1000000) (hb:b<(10:Nat) ^ (n+1)) :
  MadeOK (len+len2+2*n+9) (max dep dep2+1) (nod+nod2+1) (max rea rea2+b) (sinceL a b l r) (sinceX a b x y):=by
 have hwl:=win_len ⟨hab.1,hab.2.1⟩ hb
 have hd:depthT (sinceX a b x y)=1+max (depthT x) (depthT y):=rfl
 have hr:reachT (sinceX a b x y)=b+max (reachT x) (reachT y):=rfl
 have ec:nodesT (coreT (sinceX a b x y))=nodesT (coreT x)+nodesT (coreT y)+1:=rfl
 exact ⟨Reads.since hab h.reads h'.reads,by have:=h.len;have:=h'.len;simp [sinceL];omega,by rw [hd];have:=h.dep;have:=h'.dep;omega,by rw [ec];have:=h.nod;have:=h'.nod;omega,by rw [hr];have:=h.rea;have:=h'.rea;omega⟩
theorem ltrN_lt (k:Int):ltrN k<3:=by have:=pickZ_range k 3 (by decide);unfold ltrN;omega
theorem ltrB_name:∀ n,n<3->(1<=(ltrB n).size/\(ltrB n).size<=8/\ltrB n≠trueB/\∀ c,c∈(ltrB n).data.toList->97<=c.toNat/\c.toNat<=122)/\(ltrB n).data.toList.length<=1:=by decide +kernel
theorem MadeOK.ltr (k:Int):MadeOK 1 1 1 0 (ltrB (ltrN k)).data.toList (wordX (ltrB (ltrN k))):=by
 obtain ⟨h1,h2⟩:=ltrB_name _ (ltrN_lt k)
 exact ⟨Reads.word h1,h2,Nat.le_refl _,Nat.le_refl _,Int.le_refl _⟩
theorem sent_made (R:List Int):∀ (d i:Nat),MadeOK (10*2 ^ d-9) (d+1) (5*2 ^ d-4) (8*d) (sentF R d i).txt (sentF R d i).x/\i<(sentF R d i).next/\(sentF R d i).next+3<=i+4*2 ^ d
 | 0,i=>⟨MadeOK.ltr _,by simp [sentF],by simp [sentF]⟩
 | d+1,i=>by
  have hpw:2 ^ (d+1)=2*2 ^ d:=by rw [Nat.pow_succ];omega
  have hp1:1<=2 ^ d:=Nat.one_le_two_pow
  obtain ⟨m1,b1,b2⟩:=sent_made R d (i+1)
  have hk:=pickZ_range (R.getD i 0) 12 (by decide)
  have ha:=pickZ_range (R.getD (sentF R d (i+1)).next 0) 5 (by decide)
  have hb:=pickZ_range (R.getD ((sentF R d (i+1)).next+1) 0) 5 (by decide)
  obtain ⟨m2,c1,c2⟩:=sent_made R d (sentF R d (i+1)).next
  obtain ⟨m3,e1,e2⟩:=sent_made R d ((sentF R d (i+1)).next+2)
  rw [hpw]
  unfold sentF
  by_cases h1:pickZ (R.getD i 0) 12<2\/R.length<i+1
  ·rw [if_pos h1]
   exact ⟨(MadeOK.ltr _).weaken (by omega) (by omega) (by omega) (by omega),by show i<i+1;omega,by show i+1+3<=_;omega⟩
  ·rw [if_neg h1]
   by_cases h2:pickZ (R.getD i 0) 12<4
   ·rw [if_pos h2]
    exact ⟨m1.not.weaken (by omega) (by omega) (by omega) (by omega),by show i<(sentF R d (i+1)).next;omega,by show (sentF R d (i+1)).next+3<=_;omega⟩
   ·rw [if_neg h2]
    by_cases h3:pickZ (R.getD i 0) 12=4
    ·rw [if_pos h3]
     exact ⟨(m1.op (n:=0) (.inl ⟨rfl,rfl⟩) ⟨by omega,by omega,by omega⟩ (by omega)).weaken (by omega) (by omega) (by omega) (by omega),by show i<(sentF R d (i+1)).next+2;omega,by show (sentF R d (i+1)).next+2+3<=_;omega⟩
    ·rw [if_neg h3]
     by_cases h4:pickZ (R.getD i 0) 12<7
     ·rw [if_pos h4]
      exact ⟨(m1.op (n:=0) (.inr (.inl ⟨rfl,rfl⟩)) ⟨by omega,by omega,by omega⟩ (by omega)).weaken (by omega) (by omega) (by omega) (by omega),by show i<(sentF R d (i+1)).next+2;omega,by show (sentF R d (i+1)).next+2+3<=_;omega⟩
     ·rw [if_neg h4]
      by_cases h5:pickZ (R.getD i 0) 12=7
      ·rw [if_pos h5]
       exact ⟨(m1.op (n:=0) (.inr (.inr ⟨rfl,rfl⟩)) ⟨by omega,by omega,by omega⟩ (by omega)).weaken (by omega) (by omega) (by omega) (by omega),by show i<(sentF R d (i+1)).next+2;omega,by show (sentF R d (i+1)).next+2+3<=_;omega⟩
      ·rw [if_neg h5]
       by_cases h6:pickZ (R.getD i 0) 12<10
       ·rw [if_pos h6]
        exact ⟨(m1.since (n:=0) m3 ⟨by omega,by omega,by omega⟩ (by omega)).weaken (by omega) (by omega) (by omega) (by omega),by show i<(sentF R d ((sentF R d (i+1)).next+2)).next;omega,by show (sentF R d ((sentF R d (i+1)).next+2)).next+3<=_;omega⟩
       ·rw [if_neg h6]
        by_cases h7:pickZ (R.getD i 0) 12=10
        ·rw [if_pos h7]
         exact ⟨(m1.two m2 (.inl ⟨rfl,rfl⟩)).weaken (by omega) (by omega) (by omega) (by omega),by show i<(sentF R d (sentF R d (i+1)).next).next;omega,by show (sentF R d (sentF R d (i+1)).next).next+3<=_;omega⟩
        ·rw [if_neg h7]
         exact ⟨(m1.two m2 (.inr ⟨rfl,rfl⟩)).weaken (by omega) (by omega) (by omega) (by omega),by show i<(sentF R d (sentF R d (i+1)).next).next;omega,by show (sentF R d (sentF R d (i+1)).next).next+3<=_;omega⟩
section
variable (a b : Int) (x y : BT Pay) (e : Hap) (es : List Hap)
end
end Go.Proofs.YtpbbmagjhkakgaaGreatDoor.Ev
namespace Go.Proofs.YtpbbmagjhkakgaaGreatDoor.Ev
open Go.RowKit Go.Deep
def RawAt (w:World) (o:Option Addr) (R:List Int):Prop:=R≠[]->∃ b off,o=some ⟨b,off,none⟩/\b<w.heap.size/\∀ j,j<R.length->w.cell? ⟨b,off+j,none⟩=some (.int .i64 (R.getD j 0))
theorem RawAt.below {w w':World} {o:Option Addr} {R:List Int} (h:RawAt w o R) (hb:Below w.heap.size w w'):RawAt w' o R:=fun hne=>by
 obtain ⟨b,off,h1,h2,h3⟩:=h hne
 exact ⟨b,off,h1,Nat.lt_of_lt_of_le h2 hb.size,fun j hj=>by rw [World.cell?_of_block (hb.block b h2)];exact h3 j hj⟩
theorem number_any (R:List Int) (o:Option Addr) (cap i:Nat) (w:World) (hR:RawAt w o R) (hlen:R.length<=4611686018427387904) (hi:i<=9223372036854775000) :
  Calls Tryz.prog 29 #[.slice o R.length cap,.int .i64 (i:Int)] w fun e w'=>e=.returned (.int .i64 (R.getD i 0))/\w'=w:=by
 have hi':=hi
 have hlen':=hlen
 clear hi hlen
 by_cases h:i<R.length
 ·obtain ⟨b,off,rfl,_,hc⟩:=hR (by intro e;rw [e] at h;simp at h)
  have c1:=hc i h
  generalize R.getD i 0=r at *
  clear hc
  generalize R.length=n at *
  go_enter Tryz.func29,Tryz.ntmps29
  go_wp2_with fail
  go_ret
  exact ⟨rfl,rfl⟩
 ·have e:R.getD i 0=0:=by rw [List.getD_eq_getElem?_getD,List.getElem?_eq_none (by omega)];rfl
  rw [e]
  clear e hR
  generalize R.length=n at *
  go_enter Tryz.func29,Tryz.ntmps29
  go_wp2_with fail
  go_ret
  exact ⟨rfl,rfl⟩
theorem getD_I64 {R:List Int} (h:∀ r∈R,I64 r) (i:Nat):I64 (R.getD i 0):=by
 rw [List.getD_eq_getElem?_getD]
 cases hx:R[i]? with
 | none=>exact ⟨by decide,by decide⟩
 | some r=>exact h r (List.mem_of_getElem? hx)
theorem ltr_pick (k:Int):(⟨#[97,98,99]⟩:ByteArray).extract (pickZ k 3).toNat ((pickZ k 3).toNat+1)=ltrB (ltrN k):=ltr_at _ (ltrN_lt k)
def SentPost (R:List Int) (d i:Nat) (w:World) (e:Ending) (w':World):Prop:=(∃ s,e=.returned (.tuple #[.string s,.int .i64 ((sentF R d i).next:Int)])/\s.data.toList=(sentF R d i).txt)/\Below w.heap.size w w'
theorem SentPost.of {R:List Int} {d i:Nat} {w:World} {M:Made} (hM:sentF R d i=M) {s:ByteArray} {n:Int} {w':World} (hs:s.data.toList=M.txt) (hn:n=(M.next:Int)) (hb:Below w.heap.size w w'):SentPost R d i w (.returned (.tuple #[.string s,.int .i64 n])) w':=by
 subst hn
 exact ⟨⟨s,by rw [hM],by rw [hM];exact hs⟩,hb⟩
section
variable {R : List Int} {d i : Nat} {k : Int}
theorem sentF_ltr (hk:pickZ (R.getD i 0) 12=k) (h:d=0\/k<2\/R.length<i+1):sentF R d i=⟨(ltrB (ltrN k)).data.toList,wordX (ltrB (ltrN k)),i+1⟩:=by
 subst hk
 cases d with
 | zero=>rfl
 | succ d=>unfold sentF;rw [if_pos (by omega)]
theorem sentF_not (hk:pickZ (R.getD i 0) 12=k) (h:2<=k/\i+1<=R.length) (h2:k<4):sentF R (d+1) i=⟨notL (sentF R d (i+1)).txt,notX (sentF R d (i+1)).x,(sentF R d (i+1)).next⟩:=by
 subst hk
 rw [sentF,if_neg (by omega),if_pos h2]
theorem sentF_op (hk:pickZ (R.getD i 0) 12=k) (h:2<=k/\i+1<=R.length) {c:UInt8} {op:Int} (h2:(k=4/\c=89/\op=89)\/((k=5\/k=6)/\c=79/\op=79)\/(k=7/\c=72/\op=72)):sentF R (d+1) i=⟨opL c (pickZ (R.getD (sentF R d (i+1)).next 0) 5) (pickZ (R.getD (sentF R d (i+1)).next 0) 5+pickZ (R.getD ((sentF R d (i+1)).next+1) 0) 5) (sentF R d (i+1)).txt,opX op (pickZ (R.getD (sentF R d (i+1)).next 0) 5) (pickZ (R.getD (sentF R d (i+1)).next 0) 5+pickZ (R.getD ((sentF R d (i+1)).next+1) 0) 5) (sentF R d (i+1)).x,(sentF R d (i+1)).next+2⟩:=by
 subst hk
 rw [sentF,if_neg (by omega),if_neg (by omega)]
 rcases h2 with ⟨h,rfl,rfl⟩ | ⟨h,rfl,rfl⟩ | ⟨h,rfl,rfl⟩
 ·rw [if_pos h]
 ·rw [if_neg (by omega),if_pos (by omega)]
 ·rw [if_neg (by omega),if_neg (by omega),if_pos h]
theorem sentF_since (hk:pickZ (R.getD i 0) 12=k) (h:2<=k/\i+1<=R.length) (h2:8<=k/\k<10):sentF R (d+1) i=⟨sinceL (pickZ (R.getD (sentF R d (i+1)).next 0) 5) (pickZ (R.getD (sentF R d (i+1)).next 0) 5+pickZ (R.getD ((sentF R d (i+1)).next+1) 0) 5) (sentF R d (i+1)).txt (sentF R d ((sentF R d (i+1)).next+2)).txt,sinceX (pickZ (R.getD (sentF R d (i+1)).next 0) 5) (pickZ (R.getD (sentF R d (i+1)).next 0) 5+pickZ (R.getD ((sentF R d (i+1)).next+1) 0) 5) (sentF R d (i+1)).x (sentF R d ((sentF R d (i+1)).next+2)).x,(sentF R d ((sentF R d (i+1)).next+2)).next⟩:=by
 subst hk
 rw [sentF,if_neg (by omega),if_neg (by omega),if_neg (by omega),if_neg (by omega),if_neg (by omega),if_pos h2.2]
theorem sentF_two (hk:pickZ (R.getD i 0) 12=k) (h:2<=k/\i+1<=R.length) {c:UInt8} {op:Int} (h2:(k=10/\c=38/\op=8743)\/(k=11/\c=124/\op=8744)):sentF R (d+1) i=⟨twoL c (sentF R d (i+1)).txt (sentF R d (sentF R d (i+1)).next).txt,twoX op (sentF R d (i+1)).x (sentF R d (sentF R d (i+1)).next).x,(sentF R d (sentF R d (i+1)).next).next⟩:=by
 subst hk
 rw [sentF,if_neg (by omega),if_neg (by omega),if_neg (by omega),if_neg (by omega),if_neg (by omega),if_neg (by omega)]
 rcases h2 with ⟨h,rfl,rfl⟩ | ⟨h,rfl,rfl⟩
 ·rw [if_pos h];rfl
 ·rw [if_neg (by omega)];rfl
end
set_option maxRecDepth 100000 in
set_option maxHeartbeats 16000000 in
theorem sent_stop (R:List Int) (o:Option Addr) (cap d i:Nat) (w:World) (hlen:R.length<=4611686018427387904) (hI:∀ r∈R,I64 r) (hR:RawAt w o R) (hi:i<=9223372036854775000) (hd:d<=3) (h:d=0\/pickZ (R.getD i 0) 12<2\/R.length<i+1):Calls Tryz.prog 18 #[.slice o R.length cap,.int .i64 (i:Int),.int .i64 (d:Int)] w (SentPost R d i w):=by
 have hn:=number_any R o cap i w hR hlen hi
 have hp:=pick_any (R.getD i 0) 12 w (getD_I64 hI i) (by decide)
 have hkr:=pickZ_range (R.getD i 0) 12 (by decide)
 obtain ⟨k,hk⟩:∃ k,pickZ (R.getD i 0) 12=k:=⟨_,rfl⟩
 rw [hk] at hp hkr h
 have hp3:=pick_any k 3 w ⟨by omega,by omega⟩ (by decide)
 have hr3:=pickZ_range k 3 (by decide)
 have hltr:=ltr_pick k
 have hfin:∀ w',Below w.heap.size w w'->SentPost R d i w (.returned (.tuple #[.string (ltrB (ltrN k)),.int .i64 ((i:Int)+1)])) w':=fun w' hb=>SentPost.of (sentF_ltr hk h) rfl (by simp) hb
 replace hfin:Hid _:=hfin
 obtain ⟨q,hq⟩:∃ q:Nat,pickZ k 3=q:=⟨(pickZ k 3).toNat,by omega⟩
 rw [hq] at hp3 hr3 hltr
 simp only [Int.toNat_natCast] at hltr
 clear hk hI hR hq
 generalize ltrB (ltrN k)=lt at *
 generalize R.getD i 0=r at *
 generalize hQ:SentPost R d i w=Q at *
 clear hQ
 generalize R.length=n at *
 go_enter Tryz.func18,Tryz.ntmps18
 go_wp2_with fail
 refine hn.mono ?_
 rintro e w1 ⟨rfl,hw1⟩
 have hw1:=hw1.symm
 subst hw1
 go_wp2_with fail
 refine hp.mono ?_
 rintro e w1 ⟨rfl,hw1⟩
 have hw1:=hw1.symm
 subst hw1
 by_cases h0:d=0
 ·subst h0
  go_wp2_with fail
  refine hp3.mono ?_
  rintro e w1 ⟨rfl,hw1⟩
  have hw1:=hw1.symm
  subst hw1
  go_wp2_with fail
  refine hp3.mono ?_
  rintro e w1 ⟨rfl,hw1⟩
  have hw1:=hw1.symm
  subst hw1
  go_wp2_with fail
  exact hfin.out _ (Below.refl _ _)
 ·by_cases h2:k<2
  ·go_wp2_with fail
   refine hp3.mono ?_
   rintro e w1 ⟨rfl,hw1⟩
   have hw1:=hw1.symm
   subst hw1
   go_wp2_with fail
   refine hp3.mono ?_
   rintro e w1 ⟨rfl,hw1⟩
   have hw1:=hw1.symm
   subst hw1
   go_wp2_with fail
   exact hfin.out _ (Below.refl _ _)
  ·have h3:n<i+1:=by omega
   go_wp2_with fail
   refine hp3.mono ?_
   rintro e w1 ⟨rfl,hw1⟩
   have hw1:=hw1.symm
   subst hw1
   go_wp2_with fail
   refine hp3.mono ?_
   rintro e w1 ⟨rfl,hw1⟩
   have hw1:=hw1.symm
   subst hw1
   go_wp2_with fail
   exact hfin.out _ (Below.refl _ _)
end Go.Proofs.YtpbbmagjhkakgaaGreatDoor.Ev
namespace Go.Proofs.YtpbbmagjhkakgaaGreatDoor
open Go.ChangeShapes Go.WideShapes Go.ChangeAt Go.RowKit Go.Deep Go.Conc Go.Proofs.YtpbbmagjhkakgaaGreatDoor.Ev
section
variable {H : Type} {enc : TypeId × Value → H} {w : World}
theorem rowRaw:33<Tryz.prog.types.size:=by rw [zsize];decide
theorem readRaw:Tryz.prog.readableRec 33=true:=by kernel_rfl
theorem bytesInt:Tryz.prog.bytesOf 3=8:=by kernel_rfl
set_option maxRecDepth 100000 in
theorem raw_open {r:Reach} {b0:Nat} {v:Value} {d:DataW H} {p:List MemPlace} (hv:Value.okWide Tryz.prog w r b0 33 v) (h:DataW.Trod enc Tryz.prog w 0 (fun _=>true) true 33 v d p) (hz:(d.weights Tryz.prog 33).all (·<=reachBytes)=true) :
  ∃ o R cap,v=.slice o (List.length R) cap/\R.length<=4611686018427387904/\(∀ q∈R,I64 q)/\RawAt w o R:=by
 obtain ⟨q,l,c,rfl⟩:=okWide_slice Tryz.underlying33 hv
 obtain ⟨fuel,hf⟩:=h
 rcases open_ints Tryz.underlying33 Tryz.underlying3 cIntK hf with ⟨h1,_⟩ | ⟨a,len,cap,zs,h1,_,hl,_,hzl,hx,hc,hwf⟩
 ·have e:Value.slice q l c=.slice none 0 0:=by simpa [Value.cells] using h1
  rw [e]
  exact ⟨none,[],0,rfl,by simp,by simp,fun x=>absurd rfl x⟩
 ·have e:Value.slice q l c=.slice (some a) len cap:=by simpa [Value.cells] using h1
  rw [e]
  have hzc:zs.length=cap:=by simpa using hzl
  have hlen:(zs.take len).length=len:=by rw [List.length_take];omega
  have hd:d=.slice (lits .i64 (zs.take len)) (lits .i64 (zs.drop len)):=congrArg Prod.fst hx
  rw [hd] at hz
  unfold DataW.weights at hz
  rw [Tryz.underlying33] at hz
  simp only [List.all_cons,Bool.and_eq_true,decide_eq_true_eq,bytesInt] at hz
  have hz1:=hz.1
  have hl2:(lits (H:=H) .i64 (zs.take len)).length=len:=by unfold lits;rw [List.length_map,hlen]
  rw [hl2] at hz1
  have hrb:reachBytes<=140737488351232:=by decide
  refine ⟨some a,zs.take len,cap,by rw [hlen],by rw [hlen];omega,fun q hq=>i64_of_wf (hwf q (List.mem_of_mem_take hq)),fun hne=>?_⟩
  have h0:0<len:=by
   rcases Nat.eq_zero_or_pos len with h | h
   ·subst h;simp at hne
   ·exact h
  obtain ⟨b,o,sp⟩:=a
  have c0:=hc 0 (by omega)
  have hsp:sp=none:=by
   have:=World.cell?_spot c0
   simpa [Addr.add] using this
  subst hsp
  refine ⟨b,o,rfl,?_,fun j hj=>?_⟩
  ·exact cell_lt c0
  ·rw [hlen] at hj
   have k1:=hc j (by omega)
   rw [add_plain] at k1
   rw [k1]
   simp [List.getD_eq_getElem?_getD,hj]
end
end Go.Proofs.YtpbbmagjhkakgaaGreatDoor
namespace Go.Proofs.YtpbbmagjhkakgaaGreatDoor.Ev
open Go.RowKit Go.Deep Go.Maps Go.Proofs.YtpbbmagjhkakgaaGreatDoor.Lf Go.Conc
def IsOp (ops:Array Oper) (i d:Nat) (op:Op):Prop:=∃ o,ops[i]? = some o/\o.dst=some d/\o.op=op/\o.guard=none
section
variable {P : Program} {K : Goroutine → World → Prop} {b : Frame} {k : List Item} {cs : List Frame} {A : Act} {w : World} {ops : Array Oper} {i d : Nat} {rest : List Nat} {v : Value}
theorem put_facts (A:Act) (d:Nat) (v:Value) (hd:d<A.tmps.size):(A.put (some d) v).tmps.size=A.tmps.size/\(A.put (some d) v).defers=A.defers/\(A.put (some d) v).tmps[d]? = some v/\∀ j,j≠d->(A.put (some d) v).tmps[j]? = A.tmps[j]?:=by
 refine ⟨by simp [Act.put],rfl,by simp [Act.put,hd],fun j hj=>?_⟩
 simp only [Act.put,Array.getElem?_setIfInBounds]
 rw [if_neg (fun e=>hj e.symm)]
theorem eval_tmp {j:Nat} (h:A.tmps[j]? = some v):A.eval (.tmp j)=v:=by
 show A.tmps.getD j undef=v
 rw [Array.getD_eq_getD_getElem?,h]
 rfl
theorem isOp_wanted {o:Oper} {y:Nat->Option Bool} (h:o.guard=none):Region.wanted o y=true:=by
 unfold Region.wanted
 rw [h]
theorem LeadsR.isVal (hP:Plain P) {op:Op} (h:IsOp ops i d op) (hr:∀ o:Oper,o.op=op->∀ w,(execOp A.eval o).run P w=.ok (.value v) w) (hi:∀ it∈k,okItem it) (hc:∀ fr∈cs,okFrame fr)
  (hk:LeadsR P K (G (b.at (A.put (some d) v) (.inRegion ops rest::k)) cs) w):LeadsR P K (G (b.at A (.inRegion ops (i::rest)::k)) cs) w:=by
 obtain ⟨o,h1,h2,h3,h4⟩:=h
 refine LeadsR.val hP (w':=w) (v:=v) h1 (isOp_wanted h4) (fun τ d=>hr o h3 _) hi hc ?_
 rw [h2]
 exact hk
theorem LeadsR.mv (hP:Plain P) {x:Operand} (h:IsOp ops i d (.move x)) (hx:A.eval x=v) (hi:∀ it∈k,okItem it) (hc:∀ fr∈cs,okFrame fr)
  (hk:LeadsR P K (G (b.at (A.put (some d) v) (.inRegion ops rest::k)) cs) w):LeadsR P K (G (b.at A (.inRegion ops (i::rest)::k)) cs) w :=
 LeadsR.isVal hP h (fun o ho w=>by unfold execOp;rw [ho,<- hx];rfl) hi hc hk
theorem LeadsR.asg (hP:Plain P) {x:Operand} (h:IsOp ops i d (.assign x)) (hx:A.eval x=v) (hi:∀ it∈k,okItem it) (hc:∀ fr∈cs,okFrame fr)
  (hk:LeadsR P K (G (b.at (A.put (some d) v) (.inRegion ops rest::k)) cs) w):LeadsR P K (G (b.at A (.inRegion ops (i::rest)::k)) cs) w :=
 LeadsR.isVal hP h (fun o ho w=>by unfold execOp;rw [ho,<- hx];rfl) hi hc hk
theorem LeadsR.ext (hP:Plain P) {x:Operand} {n:Nat} {vs:Array Value} (h:IsOp ops i d (.extract x n)) (hx:A.eval x=.tuple vs) (hv:vs[n]? = some v) (hi:∀ it∈k,okItem it) (hc:∀ fr∈cs,okFrame fr)
  (hk:LeadsR P K (G (b.at (A.put (some d) v) (.inRegion ops rest::k)) cs) w):LeadsR P K (G (b.at A (.inRegion ops (i::rest)::k)) cs) w :=
 LeadsR.isVal hP h (fun o ho w=>by unfold execOp;rw [ho];simp [hx,Instr.extract,hv]) hi hc hk
theorem LeadsR.callF (hP:Plain P) {f:FuncId} {fn:Func} {args:Array Operand} {ats:Array TypeId} {vs:Array Value} {R:Ending->World->Prop} (h:IsOp ops i d (.call { callee:=.value (.func f),args,argTypes:=ats }))
  (hf:P.funcs[f]? = some fn) (hname:(fn.name== "runtime.NumGoroutine")=false) (hb:fn.body.isNone=false) (hargs:args.map A.eval=vs) (hi:∀ it∈k,okItem it) (hc:∀ fr∈cs,okFrame fr) (hC:HCalls P f vs w R) (hR:∀ e w',R e w'->∃ v,e=.returned v)
  (hk:∀ v w',R (.returned v) w'->LeadsR P K (G (b.at (A.put (some d) v) (.inRegion ops rest::k)) cs) w'):LeadsR P K (G (b.at A (.inRegion ops (i::rest)::k)) cs) w:=by
 obtain ⟨o,h1,h2,h3,h4⟩:=h
 refine LeadsR.call hP h1 (isOp_wanted h4) (fun τ d=>by rw [run_call_body h3 hf hname hb,hargs]) hi hc hC hR ?_
 rw [h2]
 exact hk
end
section
variable {K : Goroutine → World → Prop} {b : Frame} {k : List Item} {cs : List Frame} {A : Act} {w : World} {ops : Array Oper} {i d : Nat} {rest : List Nat} {v : Value}
theorem LeadsR.addI {x y:Operand} {m n:Int} (h:IsOp ops i d (.binOp .add 3 x y 3)) (hx:A.eval x=.int .i64 m) (hy:A.eval y=.int .i64 n) (hr : -9223372036854775808<=m+n/\m+n<=9223372036854775807) (hi:∀ it∈k,okItem it) (hc:∀ fr∈cs,okFrame fr)
  (hk:LeadsR Tryz.prog K (G (b.at (A.put (some d) (.int .i64 (m+n))) (.inRegion ops rest::k)) cs) w):LeadsR Tryz.prog K (G (b.at A (.inRegion ops (i::rest)::k)) cs) w :=
 LeadsR.isVal plain_prog h (fun o ho w=>by
  refine run_eq_of fun K hK=>?_
  have hwr:IntKind.i64.wrap (m+n)=m+n:=by rw [IntKind.wrap_i64];omega
  unfold execOp
  rw [ho]
  simp only [hx,hy]
  go_simp
  first | exact hK | (rw [hwr];exact hK)) hi hc hk
theorem watch_tail {x y z:Operand} {text:ByteArray} {retain:Int} {eo:Option Addr} {L:List (Int×Int)} {cap:Nat} {X:BT Pay} {i0 i1 i2 i3 i4 i5 d0 d1 d2 d3 dA dB:Nat}
  (c0:IsOp ops i0 d0 (.call { callee:=.value (.func 21),args:=#[x,y,z],argTypes:=#[9,3,34] })) (c1:IsOp ops i1 d1 (.move (.tmp d0))) (c2:IsOp ops i2 d2 (.extract (.tmp d1) 0)) (c3:IsOp ops i3 d3 (.extract (.tmp d1) 1)) (c4:IsOp ops i4 dA (.assign (.tmp d2))) (c5:IsOp ops i5 dB (.assign (.tmp d3)))
  (hz:d0<A.tmps.size/\d1<A.tmps.size/\d2<A.tmps.size/\d3<A.tmps.size/\dA<A.tmps.size/\dB<A.tmps.size) (hne:d1≠d2/\d2≠d3/\dA≠d3/\dA≠dB)
  (hx:A.eval x=.string text) (hy:A.eval y=.int .i64 retain) (hzz:A.eval z=.slice eo L.length cap) (hi:∀ it∈k,okItem it) (hc:∀ fr∈cs,okFrame fr)
  (hC:HCalls Tryz.prog 21 #[.string text,.int .i64 retain,.slice eo L.length cap] w (WatchedPost X L w))
  (hk:∀ A' w',A'.tmps.size=A.tmps.size->A'.defers=A.defers->A'.tmps[dA]? = some (.string (verS X L (min L.length 25)))->A'.tmps[dB]? = some (.bool true)->(∀ j,j≠d0->j≠d1->j≠d2->j≠d3->j≠dA->j≠dB->A'.tmps[j]? = A.tmps[j]?)->SpareR (fun _=>False) w w'->LeadsR Tryz.prog K (G (b.at A' k) cs) w') :
  LeadsR Tryz.prog K (G (b.at A (.inRegion ops [i0,i1,i2,i3,i4,i5]::k)) cs) w:=by
 have hP:=plain_prog
 obtain ⟨z0,z1,z2,z3,zA,zB⟩:=hz
 obtain ⟨n1,n2,n3,n4⟩:=hne
 refine LeadsR.callF hP c0 Tryz.func21 (by decide) rfl (by simp only [List.map_toArray,List.map_cons,List.map_nil,hx,hy,hzz]) hi hc hC (fun e w' x=>⟨_,x.1⟩) ?_
 rintro v w1 ⟨hv,hs⟩
 cases hv
 generalize verS X L (min L.length 25)=s at *
 have p0:=put_facts A d0 (.tuple #[.string s,.bool true]) z0
 generalize A.put (some d0) (.tuple #[.string s,.bool true])=A0 at *
 refine LeadsR.mv hP c1 (eval_tmp p0.2.2.1) hi hc ?_
 have p1:=put_facts A0 d1 (.tuple #[.string s,.bool true]) (by omega)
 generalize A0.put (some d1) (.tuple #[.string s,.bool true])=A1 at *
 refine LeadsR.ext hP c2 (eval_tmp p1.2.2.1) (v:=.string s) rfl hi hc ?_
 have p2:=put_facts A1 d2 (.string s) (by omega)
 generalize A1.put (some d2) (.string s)=A2 at *
 refine LeadsR.ext hP c3 (eval_tmp ((p2.2.2.2 d1 n1).trans p1.2.2.1)) (v:=.bool true) rfl hi hc ?_
 have p3:=put_facts A2 d3 (.bool true) (by omega)
 generalize A2.put (some d3) (.bool true)=A3 at *
 refine LeadsR.asg hP c4 (eval_tmp ((p3.2.2.2 d2 n2).trans p2.2.2.1)) hi hc ?_
 have p4:=put_facts A3 dA (.string s) (by omega)
 generalize A3.put (some dA) (.string s)=A4 at *
 refine LeadsR.asg hP c5 (eval_tmp ((p4.2.2.2 d3 (fun e=>n3 e.symm)).trans p3.2.2.1)) hi hc ?_
 have p5:=put_facts A4 dB (.bool true) (by omega)
 generalize A4.put (some dB) (.bool true)=A5 at *
 refine LeadsR.nil hP hi hc (hk A5 w1 (by omega) (by rw [p5.2.1,p4.2.1,p3.2.1,p2.2.1,p1.2.1,p0.2.1]) ((p5.2.2.2 dA n4).trans p4.2.2.1) p5.2.2.1 ?_ hs)
 intro j j0 j1 j2 j3 jA jB
 rw [p5.2.2.2 j jB,p4.2.2.2 j jA,p3.2.2.2 j j3,p2.2.2.2 j j2,p1.2.2.2 j j1,p0.2.2.2 j j0]
end
end Go.Proofs.YtpbbmagjhkakgaaGreatDoor.Ev
