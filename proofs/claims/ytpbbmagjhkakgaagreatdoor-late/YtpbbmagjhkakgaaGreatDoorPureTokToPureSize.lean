import Derived.Test.YtpbbmagjhkakgaaGreatDoorLfPiecesToPureGood
import Derived.Test.YtpbbmagjhkakgaaGreatDoorPureTreeToPureTab
namespace Go.Proofs.YtpbbmagjhkakgaaGreatDoor
theorem signF_97 {r:Int} (h:signF r=97):97<=r/\r<=122:=by
 unfold signF at h
 repeat' split at h
 all_goals omega
theorem signF_48 {r:Int} (h:signF r=48):48<=r/\r<=57:=by
 unfold signF at h
 repeat' split at h
 all_goals omega
theorem decode_small (s:ByteArray) (pos:Nat) (h:pos<s.size) (hr:(Utf8.decode s pos).1<128):(Utf8.decode s pos).2=1/\(s[pos]'h).toNat=(Utf8.decode s pos).1:=by
 by_cases ha:(s[pos]'h).toNat<128
 ·rw [decode_ascii s pos h ha];exact ⟨rfl,rfl⟩
 ·have:=(decode_high s pos h (by omega)).1;omega
theorem encode_small (r:Int) (h0:0<=r) (h1:r<128):(Utf8.encode r).data.toList=[UInt8.ofNat r.toNat]:=by
 have hv:Utf8.valid r=true:=by unfold Utf8.valid;simp;omega
 unfold Utf8.encode
 simp only [hv,if_true]
 rw [if_pos (by omega)]
theorem take_one (s:ByteArray) (p pos:Nat) (h:pos<s.size) (hp:p<=pos):(s.data.toList.drop p).take (pos+1-p)=(s.data.toList.drop p).take (pos-p)++[s[pos]'h]:=by
 have e:pos+1-p=(pos-p)+1:=by omega
 have hl:pos-p<(s.data.toList.drop p).length:=by
  rw [List.length_drop,Array.length_toList]
  have:s.data.size=s.size:=rfl
  omega
 rw [e,List.take_succ_eq_append_getElem hl]
 congr 2
 rw [List.getElem_drop]
 have e2:p+(pos-p)=pos:=by omega
 simp only [e2]
 rfl
def TInv (s:ByteArray) (pos:Nat) (last:Int) (toks:List Tok):Prop :=
 (∀ t,t∈toks->TokOK t)/\(joinsB last=true->∃ (ts:List Tok) (t:Tok) (p:Nat),toks=ts++[t]/\t.sign=last/\t.place=(p:Int)/\p<pos/\t.word.data.toList=(s.data.toList.drop p).take (pos-p))
theorem joins_cases {sg:Int} (h:joinsB sg=true):sg=97\/sg=48:=by
 unfold joinsB at h
 simp at h
 exact h
theorem byte_let {c:UInt8} {r:Int} (h:(c.toNat:Int)=r) (hr:97<=r/\r<=122):isLet c:=by unfold isLet;omega
theorem byte_dig {c:UInt8} {r:Int} (h:(c.toNat:Int)=r) (hr:48<=r/\r<=57):isDig c:=by unfold isDig;omega
theorem scan_ok (s:ByteArray):∀ (b pos:Nat) (last:Int) (toks ts:List Tok),TInv s pos last toks->scanF s b pos last toks=some ts->∀ t,t∈ts->TokOK t:=by
 intro b
 have hend:TokOK (endTok s):=⟨fun h=>absurd (show (-1:Int)=97 from h) (by decide),fun h=>absurd (show (-1:Int)=48 from h) (by decide)⟩
 have hfin:∀ toks:List Tok,(∀ t,t∈toks->TokOK t)->∀ t,t∈toks++[endTok s]->TokOK t:=by
  intro toks h t ht
  rcases List.mem_append.1 ht with ht | ht
  ·exact h t ht
  ·rw [List.mem_singleton] at ht;subst ht;exact hend
 induction b with
 | zero =>
  intro pos last toks ts hI h
  simp only [scanF] at h
  injection h with h;subst h
  exact hfin toks hI.1
 | succ b ih =>
  intro pos last toks ts hI h
  by_cases hp:pos<s.size
  ·rw [scanF,if_pos hp] at h
   by_cases h2:signF (Utf8.decode s pos).1 = -2
   ·rw [if_pos h2] at h;cases h
   ·rw [if_neg h2] at h
    by_cases hj:signF (Utf8.decode s pos).1=last/\joinsB (signF (Utf8.decode s pos).1)=true
    ·rw [if_pos hj] at h
     obtain ⟨hl,hjb⟩:=hj
     obtain ⟨ts0,t,p,rfl,ht1,ht2,ht3,ht4⟩:=hI.2 (hl▸hjb)
     have hr:(97<=((Utf8.decode s pos).1:Int)/\((Utf8.decode s pos).1:Int)<=122)\/(48<=((Utf8.decode s pos).1:Int)/\((Utf8.decode s pos).1:Int)<=57):=by
      rcases joins_cases hjb with e | e
      ·exact .inl (signF_97 e)
      ·exact .inr (signF_48 e)
     obtain ⟨hw,hb⟩:=decode_small s pos hp (by omega)
     rw [growF_snoc] at h
     have hword:(s.extract t.place.toNat (pos+1)).data.toList=t.word.data.toList++[s[pos]'hp]:=by
      rw [Lib.extract_data,ht2,Int.toNat_natCast,take_one s p pos hp (by omega),ht4]
     have hold:=hI.1 t (by simp)
     refine ih _ _ _ _ ⟨?_,?_⟩ h
     ·intro x hx
      rcases List.mem_append.1 hx with hx | hx
      ·exact hI.1 x (by simp [hx])
      ·rw [List.mem_singleton] at hx
       subst hx
       refine ⟨fun hs=>?_,fun hs=>?_⟩
       ·have hs':t.sign=97:=hs
        have hr2:=signF_97 (r:=(Utf8.decode s pos).1) (by rw [hl,<- ht1];exact hs')
        show (s.extract t.place.toNat (pos+1)).data.toList≠[]/\∀ c,c∈(s.extract t.place.toNat (pos+1)).data.toList->isLet c
        rw [hword]
        refine ⟨by simp,?_⟩
        intro c hc
        rcases List.mem_append.1 hc with hc | hc
        ·exact (hold.1 hs').2 c hc
        ·rw [List.mem_singleton] at hc;subst hc;exact byte_let (r:=(Utf8.decode s pos).1) (by omega) hr2
       ·have hs':t.sign=48:=hs
        have hr2:=signF_48 (r:=(Utf8.decode s pos).1) (by rw [hl,<- ht1];exact hs')
        show (s.extract t.place.toNat (pos+1)).data.toList≠[]/\∀ c,c∈(s.extract t.place.toNat (pos+1)).data.toList->isDig c
        rw [hword]
        refine ⟨by simp,?_⟩
        intro c hc
        rcases List.mem_append.1 hc with hc | hc
        ·exact (hold.2 hs').2 c hc
        ·rw [List.mem_singleton] at hc;subst hc;exact byte_dig (r:=(Utf8.decode s pos).1) (by omega) hr2
     ·intro _
      refine ⟨ts0,_,p,rfl,by rw [hl];exact ht1,ht2,by omega,?_⟩
      show (s.extract t.place.toNat (pos+1)).data.toList=_
      rw [hword,hw,take_one s p pos hp (by omega),ht4]
    ·rw [if_neg hj] at h
     by_cases h32:signF (Utf8.decode s pos).1=32
     ·rw [if_pos h32] at h
      exact ih _ _ _ _ ⟨hI.1,fun hb=>by rw [h32] at hb;exact absurd hb (by decide)⟩ h
     ·rw [if_neg h32] at h
      refine ih _ _ _ _ ⟨?_,?_⟩ h
      ·intro x hx
       rcases List.mem_append.1 hx with hx | hx
       ·exact hI.1 x hx
       ·rw [List.mem_singleton] at hx
        subst hx
        refine ⟨fun hs=>?_,fun hs=>?_⟩
        ·have hr2:=signF_97 (r:=(Utf8.decode s pos).1) hs
         dsimp only
         rw [encode_small _ (by omega) (by omega)]
         refine ⟨by simp,?_⟩
         intro c hc
         rw [List.mem_singleton] at hc;subst hc
         refine byte_let (r:=(Utf8.decode s pos).1) ?_ hr2
         rw [UInt8.toNat_ofNat'];omega
        ·have hr2:=signF_48 (r:=(Utf8.decode s pos).1) hs
         dsimp only
         rw [encode_small _ (by omega) (by omega)]
         refine ⟨by simp,?_⟩
         intro c hc
         rw [List.mem_singleton] at hc;subst hc
         refine byte_dig (r:=(Utf8.decode s pos).1) ?_ hr2
         rw [UInt8.toNat_ofNat'];omega
      ·intro hjb
       have hr:0<=((Utf8.decode s pos).1:Int)/\((Utf8.decode s pos).1:Int)<128:=by
        rcases joins_cases hjb with e | e
        ·have:=signF_97 e;omega
        ·have:=signF_48 e;omega
       obtain ⟨hw,hb⟩:=decode_small s pos hp (by omega)
       refine ⟨toks,_,pos,rfl,rfl,rfl,by omega,?_⟩
       dsimp only
       rw [encode_small _ hr.1 hr.2,hw]
       have e1:=take_one s pos pos hp (Nat.le_refl _)
       rw [e1]
       simp
       rw [<- hb]
       simp
  ·rw [scanF_end s _ pos last toks hp] at h
   injection h with h;subst h
   exact hfin toks hI.1
theorem TInv.start (s:ByteArray):TInv s 0 32 []:=⟨by simp,fun h=>absurd h (by decide)⟩
theorem readF_good {s:ByteArray} {x:Go.Deep.BT Pay} {n:Int} (h:readF s=(some x,n)) (he:∀ ts,scanF s s.size 0 32 []=some ts->Ends ts):Good x:=by
 unfold readF at h
 split at h
 ·simp at h
 ·cases h1:scanF s s.size 0 32 [] with
  | none=>simp [h1] at h
  | some ts =>
   have e1:=he ts h1
   have o1:=scan_ok s _ _ _ _ _ (TInv.start s) h1
   simp only [h1] at h
   cases h2:parseF ts.length ts with
   | none=>simp [h2] at h
   | some y =>
    obtain ⟨z,r⟩:=y
    have g2:=(gives_parse _ _ _ _ e1 o1 h2).1
    simp only [h2] at h
    cases h3:expectF (-1) r with
    | none=>simp [h3] at h
    | some t3 =>
     simp only [h3] at h
     split at h
     ·simp at h
     ·simp at h
      obtain ⟨rfl,_⟩:=h
      exact g2
end Go.Proofs.YtpbbmagjhkakgaaGreatDoor
namespace Go.Proofs.YtpbbmagjhkakgaaGreatDoor
open Go.Deep (BT)
def strip (t:Tok):Int×List UInt8:=(t.sign,t.word.data.toList)
def tkW (a:Pay):List (Int×List UInt8):=if winB a.op then [(91,[91]),(48,Lib.itoa a.lo),(44,[44]),(48,Lib.itoa a.hi),(93,[93])] else []
def tk:BT Pay->List (Int×List UInt8)
 | .nil=>[]
 | .node _ _ a l r =>
  if a.op=116 then [(97,[116,114,117,101])]
  else if a.op=97 then [(97,a.name.data.toList)]
  else if a.op=8743\/a.op=8744\/a.op=83 then (40,[40])::(tk l++((a.op,opBytes a.op)::(tkW a++(tk r++[(41,[41])]))))
  else (a.op,opBytes a.op)::(tkW a++tk l)
theorem at_lt {s:ByteArray} {pos:Nat} {c:UInt8} {l:List UInt8} (h:s.data.toList.drop pos=c::l):∃ hp:pos<s.size,s[pos]'hp=c:=by
 have h1:(s.data.toList.drop pos)[0]? = some c:=by rw [h];rfl
 rw [List.getElem?_drop] at h1
 simp only [Nat.add_zero] at h1
 rw [List.getElem?_eq_some_iff] at h1
 obtain ⟨hl,he⟩:=h1
 exact ⟨by rw [Array.length_toList] at hl;exact hl,he⟩
theorem at_next {s:ByteArray} {pos:Nat} {m l:List UInt8} (h:s.data.toList.drop pos=m++l):s.data.toList.drop (pos+m.length)=l:=by
 rw [<- List.drop_drop,h];simp
theorem dec_ascii {s:ByteArray} {pos:Nat} {c:UInt8} {l:List UInt8} (h:s.data.toList.drop pos=c::l) (hc:c.toNat<128):pos<s.size/\Utf8.decode s pos=(c.toNat,1):=by
 obtain ⟨hp,he⟩:=at_lt h
 exact ⟨hp,by rw [decode_ascii s pos hp (by rw [he];exact hc),he]⟩
theorem get_of {s:ByteArray} {pos k:Nat} {c:UInt8} {l:List UInt8} (h:s.data.toList.drop pos=l) (hk:l[k]? = some c):pos+k<s.size/\s.get! (pos+k)=c:=by
 rw [<- h,List.getElem?_drop,List.getElem?_eq_some_iff] at hk
 obtain ⟨hl,he⟩:=hk
 have hl2:pos+k<s.data.size:=by rw [Array.length_toList] at hl;exact hl
 refine ⟨hl2,?_⟩
 show s.data[pos+k]! = c
 rw [getElem!_pos s.data (pos+k) hl2,<- he]
 simp
theorem dec_sign {s:ByteArray} {pos:Nat} {op:Int} {l:List UInt8} (hop:isSign op) (h:s.data.toList.drop pos=opBytes op++l):pos<s.size/\Utf8.decode s pos=(op.toNat,(opBytes op).length):=by
 rcases hop with rfl | rfl | rfl | rfl | rfl | rfl | rfl
 ·have h':s.data.toList.drop pos=194::172::l:=h
  have g0:=get_of (k:=0) h' rfl
  have g1:=get_of (k:=1) h' rfl
  refine ⟨by have:=g0.1;omega,?_⟩
  have e0:s.get! pos=194:=g0.2
  unfold Utf8.decode
  simp [e0,g1.2,g1.1]
  decide
 ·have h':s.data.toList.drop pos=226::136::167::l:=h
  have g0:=get_of (k:=0) h' rfl
  have g1:=get_of (k:=1) h' rfl
  have g2:=get_of (k:=2) h' rfl
  refine ⟨by have:=g0.1;omega,?_⟩
  have e0:s.get! pos=226:=g0.2
  unfold Utf8.decode
  simp [e0,g1.2,g1.1,g2.1,g2.2]
  decide
 ·have h':s.data.toList.drop pos=226::136::168::l:=h
  have g0:=get_of (k:=0) h' rfl
  have g1:=get_of (k:=1) h' rfl
  have g2:=get_of (k:=2) h' rfl
  refine ⟨by have:=g0.1;omega,?_⟩
  have e0:s.get! pos=226:=g0.2
  unfold Utf8.decode
  simp [e0,g1.2,g1.1,g2.1,g2.2]
  decide
 ·exact dec_ascii (show s.data.toList.drop pos=89::l from h) (by decide)
 ·exact dec_ascii (show s.data.toList.drop pos=79::l from h) (by decide)
 ·exact dec_ascii (show s.data.toList.drop pos=72::l from h) (by decide)
 ·exact dec_ascii (show s.data.toList.drop pos=83::l from h) (by decide)
def Eats (s:ByteArray) (pos:Nat) (last:Int) (l:List UInt8) (n:Nat) (last':Int) (T:List (Int×List UInt8)):Prop :=
 ∀ (b:Nat) (toks:List Tok),∃ A:List Tok,A.map strip=T/\scanF s (b+n) pos last toks=scanF s b (pos+l.length) last' (toks++A)
theorem Eats.trans {s:ByteArray} {pos:Nat} {a b c:Int} {l m:List UInt8} {n k:Nat} {T U:List (Int×List UInt8)} (h:Eats s pos a l n b T) (g:Eats s (pos+l.length) b m k c U):Eats s pos a (l++m) (k+n) c (T++U):=by
 intro q toks
 obtain ⟨A,hA,e1⟩:=h (q+k) toks
 obtain ⟨B,hB,e2⟩:=g q (toks++A)
 refine ⟨A++B,by rw [List.map_append,hA,hB],?_⟩
 rw [<- Nat.add_assoc,e1,e2,List.length_append,List.append_assoc,Nat.add_assoc]
theorem eats_blank {s:ByteArray} {pos:Nat} (last:Int) {l:List UInt8} (h:s.data.toList.drop pos=32::l):Eats s pos last [32] 1 32 []:=by
 obtain ⟨hp,hd⟩:=dec_ascii h (by decide)
 intro b toks
 refine ⟨[],rfl,?_⟩
 rw [scanF,if_pos hp,hd]
 have e:signF ((32:UInt8).toNat:Nat)=32:=by decide
 dsimp only
 rw [e,if_neg (by decide),if_neg (by intro h;exact absurd h.2 (by decide)),if_pos rfl]
 simp
theorem eats_sign {s:ByteArray} {pos r:Nat} (last:Int) {m:List UInt8} (hp:pos<s.size) (hd:Utf8.decode s pos=(r,m.length)) (h2:signF r≠-2) (hj:joinsB (signF r)=false) (h32:signF r≠32) (hm:(Utf8.encode r).data.toList=m) :
  Eats s pos last m 1 (signF r) [(signF r,m)]:=by
 intro b toks
 refine ⟨[⟨signF r,pos,Utf8.encode r⟩],by simp only [List.map_cons,List.map_nil,strip];rw [hm],?_⟩
 rw [scanF,if_pos hp,hd]
 dsimp only
 rw [if_neg h2,if_neg (by intro h;rw [hj] at h;exact absurd h.2 (by decide)),if_neg h32]
theorem eats_op {s:ByteArray} {pos:Nat} {op:Int} (last:Int) {l:List UInt8} (hop:isSign op) (h:s.data.toList.drop pos=opBytes op++l):Eats s pos last (opBytes op) 1 op [(op,opBytes op)]:=by
 obtain ⟨hp,hd⟩:=dec_sign hop h
 have hs:signF (op.toNat:Nat)=op:=by rcases hop with rfl | rfl | rfl | rfl | rfl | rfl | rfl<;>decide
 have:=eats_sign (s:=s) (pos:=pos) (r:=op.toNat) last (m:=opBytes op) hp hd (by rw [hs];rcases hop with rfl | rfl | rfl | rfl | rfl | rfl | rfl<;>decide) (by rw [hs];rcases hop with rfl | rfl | rfl | rfl | rfl | rfl | rfl<;>decide) (by rw [hs];rcases hop with rfl | rfl | rfl | rfl | rfl | rfl | rfl<;>decide) (by rcases hop with rfl | rfl | rfl | rfl | rfl | rfl | rfl<;>decide)
 rw [hs] at this
 exact this
theorem eats_char {s:ByteArray} {pos:Nat} (c:UInt8) (last:Int) {l:List UInt8} (hc:c=40\/c=41\/c=91\/c=93\/c=44) (h:s.data.toList.drop pos=c::l):Eats s pos last [c] 1 c.toNat [((c.toNat:Int),[c])]:=by
 obtain ⟨hp,hd⟩:=dec_ascii h (by rcases hc with rfl | rfl | rfl | rfl | rfl<;>decide)
 have hs:signF (c.toNat:Nat)=(c.toNat:Int):=by rcases hc with rfl | rfl | rfl | rfl | rfl<;>decide
 have:=eats_sign (s:=s) (pos:=pos) (r:=c.toNat) last (m:=[c]) hp hd (by rw [hs];rcases hc with rfl | rfl | rfl | rfl | rfl<;>decide) (by rw [hs];rcases hc with rfl | rfl | rfl | rfl | rfl<;>decide) (by rw [hs];rcases hc with rfl | rfl | rfl | rfl | rfl<;>decide) (by rcases hc with rfl | rfl | rfl | rfl | rfl<;>decide)
 rw [hs] at this
 exact this
theorem run_more {s:ByteArray} {sg:Int} (hj:joinsB sg=true):∀ (l:List UInt8) (pos p:Nat) (rest:List UInt8) (b:Nat) (toks:List Tok) (wd:ByteArray),s.data.toList.drop pos=l++rest->(∀ c,c∈l->c.toNat<128/\signF (c.toNat:Nat)=sg)->p<=pos->wd.data.toList=(s.data.toList.drop p).take (pos-p)->
  ∃ wd':ByteArray,wd'.data.toList=(s.data.toList.drop p).take (pos+l.length-p)/\scanF s (b+l.length) pos sg (toks++[⟨sg,p,wd⟩])=scanF s b (pos+l.length) sg (toks++[⟨sg,p,wd'⟩]):=by
 intro l
 induction l with
 | nil=>intro pos p rest b toks wd _ _ _ hw;exact ⟨wd,by simpa using hw,by simp⟩
 | cons c l ih =>
  intro pos p rest b toks wd h hc hp hw
  have hcc:=hc c (by simp)
  obtain ⟨hlt,hd⟩:=dec_ascii (show s.data.toList.drop pos=c::(l++rest) from h) hcc.1
  have hnext:s.data.toList.drop (pos+1)=l++rest:=at_next (m:=[c]) h
  have hw':(s.extract p (pos+1)).data.toList=(s.data.toList.drop p).take (pos+1-p):=Lib.extract_data s p (pos+1)
  obtain ⟨wd',e1,e2⟩:=ih (pos+1) p rest b toks (s.extract p (pos+1)) hnext (fun x hx=>hc x (by simp [hx])) (by omega) hw'
  refine ⟨wd',by rw [e1];congr 1;simp;omega,?_⟩
  have e3:b+(c::l).length=(b+l.length)+1:=by simp;omega
  rw [e3,scanF,if_pos hlt,hd]
  dsimp only
  rw [hcc.2,if_neg (by rcases joins_cases hj with e | e<;>rw [e]<;>decide),if_pos ⟨rfl,hj⟩,growF_snoc]
  dsimp only
  have e4:pos+1+l.length=pos+(c::l).length:=by simp;omega
  rw [Int.toNat_natCast,e2,e4]
theorem eats_run {s:ByteArray} {sg:Int} (hj:joinsB sg=true) {l rest:List UInt8} {pos:Nat} {last:Int} (hne:l≠[]) (h:s.data.toList.drop pos=l++rest) (hc:∀ c,c∈l->c.toNat<128/\signF (c.toNat:Nat)=sg) (hl:last≠sg):Eats s pos last l l.length sg [(sg,l)]:=by
 intro b toks
 cases l with
 | nil=>exact absurd rfl hne
 | cons c l =>
  have hcc:=hc c (by simp)
  obtain ⟨hlt,hd⟩:=dec_ascii (show s.data.toList.drop pos=c::(l++rest) from h) hcc.1
  have hnext:s.data.toList.drop (pos+1)=l++rest:=at_next (m:=[c]) h
  have henc:(Utf8.encode (c.toNat:Nat)).data.toList=[c]:=by
   rw [encode_small _ (by omega) (by omega)]
   simp
  have hw:(Utf8.encode (c.toNat:Nat)).data.toList=(s.data.toList.drop pos).take (pos+1-pos):=by
   rw [henc,h]
   have:pos+1-pos=1:=by omega
   rw [this];rfl
  obtain ⟨wd',e1,e2⟩:=run_more hj l (pos+1) pos rest b toks (Utf8.encode (c.toNat:Nat)) hnext (fun x hx=>hc x (by simp [hx])) (by omega) hw
  refine ⟨[⟨sg,pos,wd'⟩],?_,?_⟩
  ·simp only [List.map_cons,List.map_nil,strip]
   rw [e1,h]
   have:pos+1+l.length-pos=(c::l).length:=by simp;omega
   rw [this,List.take_left']
   rfl
  ·have e3:b+(c::l).length=(b+l.length)+1:=by simp;omega
   rw [e3,scanF,if_pos hlt,hd]
   dsimp only
   rw [hcc.2,if_neg (by rcases joins_cases hj with e | e<;>rw [e]<;>decide),if_neg (by intro h;exact hl h.1.symm),if_neg (by rcases joins_cases hj with e | e<;>rw [e]<;>decide),e2]
   have e4:pos+1+l.length=pos+(c::l).length:=by simp;omega
   rw [e4]
theorem signF_dig {c:UInt8} (h:isDig c):c.toNat<128/\signF (c.toNat:Nat)=48:=by
 unfold isDig at h
 refine ⟨by omega,?_⟩
 unfold signF
 rw [if_neg (by omega),if_neg (by omega),if_neg (by omega),if_neg (by omega),if_neg (by omega),if_pos (by omega)]
theorem signF_let {c:UInt8} (h:isLet c):c.toNat<128/\signF (c.toNat:Nat)=97:=by
 unfold isLet at h
 refine ⟨by omega,?_⟩
 unfold signF
 rw [if_neg (by omega),if_neg (by omega),if_neg (by omega),if_neg (by omega),if_pos (by omega)]
theorem itoa_dig (v:Int) (h:0<=v):Lib.itoa v≠[]/\∀ c,c∈Lib.itoa v->isDig c:=by
 rw [itoa_eq v h];exact ⟨dec_ne _,dec_dig _⟩
theorem eats_num {s:ByteArray} {pos:Nat} {last v:Int} {rest:List UInt8} (hv:0<=v) (h:s.data.toList.drop pos=Lib.itoa v++rest) (hl:last≠48):Eats s pos last (Lib.itoa v) (Lib.itoa v).length 48 [(48,Lib.itoa v)] :=
 eats_run (by decide) (itoa_dig v hv).1 h (fun c hc=>signF_dig ((itoa_dig v hv).2 c hc)) hl
theorem eats_opW {s:ByteArray} {pos:Nat} {a:Pay} (last:Int) {rest:List UInt8} (hop:isSign a.op) (h0:0<=a.lo) (h1:0<=a.hi) (h:s.data.toList.drop pos=opW a++rest) :
  ∃ n last',n<=(opW a).length/\last'≠97/\Eats s pos last (opW a) n last' ((a.op,opBytes a.op)::tkW a):=by
 have hob:1<=(opBytes a.op).length:=by rcases hop with e | e | e | e | e | e | e<;>rw [e]<;>decide
 cases hw:winB a.op with
 | false =>
  have e1:opW a=opBytes a.op:=by unfold opW;rw [hw];rfl
  have e2:tkW a=[]:=by unfold tkW;rw [hw];rfl
  rw [e1] at h ⊢
  rw [e2]
  exact ⟨1,a.op,hob,by rcases hop with e | e | e | e | e | e | e<;>rw [e]<;>decide,eats_op last hop h⟩
 | true =>
  have e1:opW a=opBytes a.op++([91]++(Lib.itoa a.lo++([44]++(Lib.itoa a.hi++[93])))):=by unfold opW;rw [hw];simp
  have e2:tkW a=[(91,[91]),(48,Lib.itoa a.lo),(44,[44]),(48,Lib.itoa a.hi),(93,[93])]:=by unfold tkW;rw [hw];rfl
  rw [e1] at h ⊢
  rw [e2]
  simp only [List.append_assoc] at h
  have k1:=eats_op last hop h
  have d1:=at_next h
  have k2:=eats_char 91 a.op (by simp) (show s.data.toList.drop _=91::_ from d1)
  have d2:=at_next (m:=[91]) d1
  have k3:=eats_num (last:=((91:UInt8).toNat:Int)) h0 d2 (by decide)
  have d3:=at_next d2
  have k4:=eats_char 44 48 (by simp) (show s.data.toList.drop _=44::_ from d3)
  have d4:=at_next (m:=[44]) d3
  have k5:=eats_num (last:=((44:UInt8).toNat:Int)) h1 d4 (by decide)
  have d5:=at_next d4
  have k6:=eats_char 93 48 (by simp) (show s.data.toList.drop _=93::_ from d5)
  refine ⟨_,_,?_,?_,k1.trans (k2.trans (k3.trans (k4.trans (k5.trans k6))))⟩
  ·simp;omega
  ·decide
theorem eats_tree {s:ByteArray}:∀ (x:BT Pay),Good x->∀ (pos:Nat) (last:Int) (rest:List UInt8),s.data.toList.drop pos=printB x++rest->last≠97->∃ n last',n<=(printB x).length/\Eats s pos last (printB x) n last' (tk x):=by
 intro x
 induction x with
 | nil=>intro h;exact h.elim
 | node b o a l r il ir =>
  intro hg pos last rest h hl
  rcases hg with ⟨h1,_⟩ | ⟨h1,⟨n1,n2,n3,n4⟩,_⟩ | ⟨h1,_,h3,_,gl,gr⟩ | ⟨h1,_,h3,_,gl,_⟩
  ·have e1:printB (.node b o a l r)=[116,114,117,101]:=by simp only [printB];rw [if_pos h1]
   have e2:tk (.node b o a l r)=[(97,[116,114,117,101])]:=by simp only [tk];rw [if_pos h1]
   rw [e1] at h ⊢
   rw [e2]
   refine ⟨_,97,Nat.le_refl _,eats_run (by decide) (by simp) h ?_ hl⟩
   intro c hc
   simp at hc
   rcases hc with rfl | rfl | rfl | rfl<;>decide
  ·have e1:printB (.node b o a l r)=a.name.data.toList:=by simp only [printB];rw [if_neg (by omega),if_pos h1]
   have e2:tk (.node b o a l r)=[(97,a.name.data.toList)]:=by simp only [tk];rw [if_neg (by omega),if_pos h1]
   rw [e1] at h ⊢
   rw [e2]
   refine ⟨_,97,Nat.le_refl _,eats_run (by decide) ?_ h (fun c hc=>signF_let (n4 c hc)) hl⟩
   intro e
   have:a.name.data.toList.length=a.name.size:=by rw [Array.length_toList];rfl
   rw [e] at this
   simp at this
   omega
  ·have e1:printB (.node b o a l r)=[40]++(printB l++([32]++(opW a++([32]++(printB r++[41]))))):=by simp only [printB];rw [if_neg (by omega),if_neg (by omega),if_pos h1];simp
   have e2:tk (.node b o a l r)=[(40,[40])]++(tk l++([]++(((a.op,opBytes a.op)::tkW a)++([]++(tk r++[(41,[41])]))))):=by simp only [tk];rw [if_neg (by omega),if_neg (by omega),if_pos h1];simp
   rw [e1] at h ⊢
   rw [e2]
   simp only [List.append_assoc] at h
   have k1:=eats_char 40 last (by simp) (show s.data.toList.drop _=40::_ from h)
   have d1:=at_next (m:=[40]) h
   obtain ⟨m2,l2,b2,k2⟩:=il gl _ ((40:UInt8).toNat:Int) _ d1 (by decide)
   have d2:=at_next d1
   have k3:=eats_blank l2 (show s.data.toList.drop _=32::_ from d2)
   have d3:=at_next (m:=[32]) d2
   obtain ⟨m4,l4,b4,_,k4⟩:=eats_opW 32 (a:=a) (by unfold isSign;omega) (by omega) (by omega) d3
   have d4:=at_next d3
   have k5:=eats_blank l4 (show s.data.toList.drop _=32::_ from d4)
   have d5:=at_next (m:=[32]) d4
   obtain ⟨m6,l6,b6,k6⟩:=ir gr _ 32 _ d5 (by decide)
   have d6:=at_next d5
   have k7:=eats_char 41 l6 (by simp) (show s.data.toList.drop _=41::_ from d6)
   refine ⟨_,_,?_,k1.trans (k2.trans (k3.trans (k4.trans (k5.trans (k6.trans k7)))))⟩
   simp;omega
  ·have e1:printB (.node b o a l r)=opW a++printB l:=by simp only [printB];rw [if_neg (by omega),if_neg (by omega),if_neg (by omega)]
   have e2:tk (.node b o a l r)=((a.op,opBytes a.op)::tkW a)++tk l:=by simp only [tk];rw [if_neg (by omega),if_neg (by omega),if_neg (by omega)];simp
   rw [e1] at h ⊢
   rw [e2]
   simp only [List.append_assoc] at h
   obtain ⟨m1,l1,b1,n1,k1⟩:=eats_opW last (a:=a) (by unfold isSign;omega) (by omega) (by omega) h
   have d1:=at_next h
   obtain ⟨m2,l2,b2,k2⟩:=il gl _ l1 _ d1 n1
   refine ⟨_,_,?_,k1.trans k2⟩
   simp;omega
def ZeroT:BT Pay->Prop
 | .nil=>True
 | .node b o _ l r=>b=0/\o=0/\ZeroT l/\ZeroT r
theorem take_tok {t:Tok} {ts:List Tok} {sg:Int} (h:t.sign=sg) (hs:sg≠-1):takeF (t::ts)=(t,ts):=by
 have:t.sign≠-1:=by omega
 simp [takeF,this]
theorem expect_tok {t:Tok} {ts:List Tok} {sg:Int} (h:t.sign=sg) (hs:sg≠-1):expectF sg (t::ts)=some ts:=by
 unfold expectF
 rw [take_tok h hs,if_pos h]
theorem num_tok {t:Tok} {ts:List Tok} {v:Int} (h:t.sign=48) (hw:t.word.data.toList=Lib.itoa v) (h0:0<=v) (h1:v<=1000000):numF (t::ts)=some (v,ts):=by
 unfold numF
 rw [take_tok h (by decide),if_pos h]
 have e:t.word=⟨(Lib.itoa v).toArray⟩:=bytes_ext (by simpa using hw)
 rw [show numB t.word=some v by rw [e];exact numB_itoa v h0 h1]
 rfl
theorem map_cons {ts:List Tok} {p:Int×List UInt8} {T:List (Int×List UInt8)} (h:ts.map strip=p::T):∃ t r,ts=t::r/\t.sign=p.1/\t.word.data.toList=p.2/\r.map strip=T:=by
 cases ts with
 | nil=>cases h
 | cons t r =>
  simp only [List.map_cons,List.cons.injEq] at h
  obtain ⟨h1,h2⟩:=h
  exact ⟨t,r,rfl,by rw [<- h1];rfl,by rw [<- h1];rfl,h2⟩
theorem window_tok {a:Pay} {A rest:List Tok} (hA:A.map strip=tkW a) (hw:0<=a.lo/\a.lo<=a.hi/\a.hi<=1000000) (hz:winB a.op=false->a.lo=0/\a.hi=0):windowF a.op (A++rest)=some ((a.lo,a.hi),rest):=by
 unfold windowF
 unfold tkW at hA
 cases hb:winB a.op with
 | false =>
  rw [hb] at hA
  have:A=[]:=by simpa using hA
  subst this
  obtain ⟨h1,h2⟩:=hz hb
  rw [h1,h2]
  rfl
 | true =>
  rw [hb] at hA
  obtain ⟨t1,r1,rfl,s1,w1,hA⟩:=map_cons hA
  obtain ⟨t2,r2,rfl,s2,w2,hA⟩:=map_cons hA
  obtain ⟨t3,r3,rfl,s3,w3,hA⟩:=map_cons hA
  obtain ⟨t4,r4,rfl,s4,w4,hA⟩:=map_cons hA
  obtain ⟨t5,r5,rfl,s5,w5,hA⟩:=map_cons hA
  have:r5=[]:=by simpa using hA
  subst this
  simp only [List.cons_append,List.nil_append,if_true]
  rw [expect_tok s1 (by decide)]
  simp only
  rw [num_tok s2 w2 hw.1 (by omega)]
  simp only
  rw [expect_tok s3 (by decide)]
  simp only
  rw [num_tok s4 w4 (by omega) hw.2.2]
  simp only
  rw [expect_tok s5 (by decide)]
  simp only
  rw [if_neg (by omega)]
theorem parse_tok:∀ (x:BT Pay),Good x->ZeroT x->∀ (n:Nat),depthT x<=n->∀ (A rest:List Tok),A.map strip=tk x->parseF n (A++rest)=some (x,rest):=by
 intro x
 induction x with
 | nil=>intro h;exact h.elim
 | node b o a l r il ir =>
  intro hg hz n hn A rest hA
  obtain ⟨rfl,rfl,zl,zr⟩:=hz
  obtain ⟨m,rfl⟩:∃ m,n=m+1:=⟨n-1,by simp only [depthT] at hn;omega⟩
  have dl:depthT l<=m:=by simp only [depthT] at hn;omega
  have dr:depthT r<=m:=by simp only [depthT] at hn;omega
  show stepF (parseF m) (A++rest)=_
  unfold stepF
  rcases hg with ⟨h1,h2,h3,h4,rfl,rfl⟩ | ⟨h1,⟨n1,n2,n3,n4⟩,h3,h4,rfl,rfl⟩ | ⟨h1,h2,h3,h4,gl,gr⟩ | ⟨h1,h2,h3,h4,gl,rfl⟩
  ·have e2:tk (.node 0 0 a .nil .nil)=[(97,[116,114,117,101])]:=by simp only [tk];rw [if_pos h1]
   rw [e2] at hA
   obtain ⟨t,r,rfl,s1,w1,hA⟩:=map_cons hA
   have:r=[]:=by simpa using hA
   subst this
   simp only [List.cons_append,List.nil_append]
   rw [take_tok s1 (by decide),if_pos s1]
   have ew:t.word=trueB:=bytes_ext (by rw [w1];rfl)
   have:wordF t=some (.node 0 0 a .nil .nil):=by
    unfold wordF
    rw [if_pos ew]
    cases a
    simp only at h1 h2 h3 h4
    subst h1;subst h2;subst h3;subst h4
    rfl
   rw [this];rfl
  ·have e2:tk (.node 0 0 a .nil .nil)=[(97,a.name.data.toList)]:=by simp only [tk];rw [if_neg (by omega),if_pos h1]
   rw [e2] at hA
   obtain ⟨t,r,rfl,s1,w1,hA⟩:=map_cons hA
   have:r=[]:=by simpa using hA
   subst this
   simp only [List.cons_append,List.nil_append]
   have s1':t.sign=97:=s1
   rw [take_tok (sg:=97) s1' (by decide),if_pos s1']
   have ew:t.word=a.name:=bytes_ext w1
   have:wordF t=some (.node 0 0 a .nil .nil):=by
    unfold wordF
    rw [ew,if_neg n3,if_neg (by omega)]
    cases a
    simp only at h1 h3 h4
    subst h1;subst h3;subst h4
    rfl
   rw [this];rfl
  ·have e2:tk (.node 0 0 a l r)=(40,[40])::(tk l++((a.op,opBytes a.op)::(tkW a++(tk r++[(41,[41])])))):=by simp only [tk];rw [if_neg (by omega),if_neg (by omega),if_pos h1]
   rw [e2] at hA
   obtain ⟨t0,r0,rfl,s0,_,hA⟩:=map_cons hA
   obtain ⟨Al,r1,rfl,hAl,hA⟩:=List.map_eq_append_iff.1 hA
   obtain ⟨t2,r2,rfl,s2,_,hA⟩:=map_cons hA
   obtain ⟨Aw,r3,rfl,hAw,hA⟩:=List.map_eq_append_iff.1 hA
   obtain ⟨Ar,r4,rfl,hAr,hA⟩:=List.map_eq_append_iff.1 hA
   obtain ⟨t5,r5,rfl,s5,_,hA⟩:=map_cons hA
   have:r5=[]:=by simpa using hA
   subst this
   simp only [List.cons_append,List.append_assoc,List.nil_append]
   have s2':t2.sign=a.op:=s2
   rw [take_tok s0 (by decide)]
   simp only
   have s0':t0.sign=40:=s0
   rw [s0',if_neg (by decide),if_pos rfl]
   unfold pairF
   rw [il gl zl m dl Al _ hAl]
   simp only
   rw [take_tok (sg:=a.op) s2' (by omega)]
   simp only
   rw [s2',if_pos h1,window_tok hAw h3 h4]
   simp only
   rw [ir gr zr m dr Ar _ hAr]
   simp only
   rw [expect_tok s5 (by decide)]
   simp only
   cases a
   simp only at h2
   subst h2
   rfl
  ·have e2:tk (.node 0 0 a l .nil)=(a.op,opBytes a.op)::(tkW a++tk l):=by simp only [tk];rw [if_neg (by omega),if_neg (by omega),if_neg (by omega)]
   rw [e2] at hA
   obtain ⟨t0,r0,rfl,s0,_,hA⟩:=map_cons hA
   obtain ⟨Aw,Al,rfl,hAw,hAl⟩:=List.map_eq_append_iff.1 hA
   simp only [List.cons_append,List.append_assoc]
   have s0':t0.sign=a.op:=s0
   rw [take_tok (sg:=a.op) s0' (by omega)]
   simp only
   rw [s0',if_neg (by omega),if_neg (by omega),if_pos h1]
   unfold singleF
   rw [window_tok hAw h3 h4]
   simp only
   rw [il gl zl m dl Al _ hAl]
   simp only
   cases a
   simp only at h2
   subst h2
   rfl
theorem tk_depth:∀ {x:BT Pay},Good x->depthT x<=(tk x).length
 | .node b o a l r,h=>by
  rcases h with ⟨h1,_,_,_,rfl,rfl⟩ | ⟨h1,_,_,_,rfl,rfl⟩ | ⟨h1,_,_,_,gl,gr⟩ | ⟨h1,_,_,_,gl,rfl⟩
  ·simp only [tk,depthT];rw [if_pos h1];simp
  ·simp only [tk,depthT];rw [if_neg (by omega),if_pos h1];simp
  ·have:=tk_depth gl;have:=tk_depth gr
   simp only [tk,depthT];rw [if_neg (by omega),if_neg (by omega),if_pos h1];simp;omega
  ·have:=tk_depth gl
   simp only [tk,depthT];rw [if_neg (by omega),if_neg (by omega),if_neg (by omega)];simp;omega
theorem read_print (x:BT Pay) (hg:Good x) (hz:ZeroT x) (hd:depthT x<=12) (hl:(printB x).length<=300):readF ⟨(printB x).toArray⟩=(some x,0):=by
 have hs:(⟨(printB x).toArray⟩:ByteArray).size=(printB x).length:=by simp [ByteArray.size]
 obtain ⟨n,last',hn,hE⟩:=eats_tree (s:=⟨(printB x).toArray⟩) x hg 0 32 [] (by simp) (by decide)
 obtain ⟨A,hA,e⟩:=hE ((printB x).length-n) []
 have e0:(printB x).length-n+n=(printB x).length:=by omega
 rw [e0] at e
 have e':scanF ⟨(printB x).toArray⟩ (printB x).length 0 32 []=some (A++[endTok ⟨(printB x).toArray⟩]):=by
  refine e.trans ?_
  rw [scanF_end _ _ _ _ _ (by rw [hs];omega),List.nil_append]
 unfold readF
 rw [if_neg (by rw [hs];omega),hs,e']
 simp only
 have hlen:depthT x<=(A++[endTok ⟨(printB x).toArray⟩]).length:=by
  have h1:=tk_depth hg
  rw [<- hA,List.length_map] at h1
  simp;omega
 rw [parse_tok x hg hz _ hlen A _ hA]
 simp only
 have e1:expectF (-1) [endTok ⟨(printB x).toArray⟩]=some [endTok ⟨(printB x).toArray⟩]:=by
  unfold expectF takeF
  rfl
 rw [e1]
 simp only
 rw [if_neg (by omega)]
def Zeros (f:List Tok->Option (BT Pay×List Tok)):Prop:=∀ ts x r,f ts=some (x,r)->ZeroT x
theorem zeros_step {f:List Tok->Option (BT Pay×List Tok)} (hf:Zeros f):Zeros (stepF f):=by
 intro ts x r h
 unfold stepF at h
 split at h
 ·cases hw:wordF (takeF ts).1 with
  | none=>simp [hw] at h
  | some y =>
   simp [hw] at h
   obtain ⟨rfl,_⟩:=h
   unfold wordF at hw
   split at hw
   ·injection hw with hw;subst hw;exact ⟨rfl,rfl,trivial,trivial⟩
   ·split at hw
    ·cases hw
    ·injection hw with hw;subst hw;exact ⟨rfl,rfl,trivial,trivial⟩
 ·split at h
  ·unfold pairF at h
   cases h1:f (takeF ts).2 with
   | none=>simp [h1] at h
   | some y =>
    obtain ⟨p,t1⟩:=y
    have d1:=hf _ _ _ h1
    simp only [h1] at h
    split at h
    ·cases h2:windowF (takeF t1).1.sign (takeF t1).2 with
     | none=>simp [h2] at h
     | some z =>
      obtain ⟨⟨lo,hi⟩,t2⟩:=z
      simp only [h2] at h
      cases h3:f t2 with
      | none=>simp [h3] at h
      | some z =>
       obtain ⟨q,t3⟩:=z
       have d2:=hf _ _ _ h3
       simp only [h3] at h
       cases h4:expectF 41 t3 with
       | none=>simp [h4] at h
       | some t4 =>
        simp [h4] at h
        obtain ⟨rfl,_⟩:=h
        exact ⟨rfl,rfl,d1,d2⟩
    ·cases h
  ·split at h
   ·unfold singleF at h
    cases h2:windowF (takeF ts).1.sign (takeF ts).2 with
    | none=>simp [h2] at h
    | some z =>
     obtain ⟨⟨lo,hi⟩,t2⟩:=z
     simp only [h2] at h
     cases h3:f t2 with
     | none=>simp [h3] at h
     | some z =>
      obtain ⟨q,t3⟩:=z
      have d2:=hf _ _ _ h3
      simp [h3] at h
      obtain ⟨rfl,_⟩:=h
      exact ⟨rfl,rfl,d2,trivial⟩
   ·cases h
theorem zeros_parse:∀ n,Zeros (parseF n)
 | 0=>fun _ _ _ h=>by cases h
 | n+1=>zeros_step (zeros_parse n)
theorem readF_zero {s:ByteArray} {x:BT Pay} {n:Int} (h:readF s=(some x,n)):ZeroT x/\depthT x<=12/\n=0:=by
 unfold readF at h
 split at h
 ·simp at h
 ·cases h1:scanF s s.size 0 32 [] with
  | none=>simp [h1] at h
  | some ts =>
   simp only [h1] at h
   cases h2:parseF ts.length ts with
   | none=>simp [h2] at h
   | some y =>
    obtain ⟨z,r⟩:=y
    have g2:=zeros_parse _ _ _ _ h2
    simp only [h2] at h
    cases h3:expectF (-1) r with
    | none=>simp [h3] at h
    | some t3 =>
     simp only [h3] at h
     split at h
     ·simp at h
     ·simp at h
      obtain ⟨rfl,rfl⟩:=h
      exact ⟨g2,by omega,rfl⟩
theorem readF_long {s:ByteArray} (h:300<s.size):readF s=(none,1):=by unfold readF;rw [if_pos h]
theorem dec_len:∀ (n u:Nat),u<10 ^ (n+1)->(Lib.decDigits u).length<=n+1
 | 0,u,h=>by rw [Lib.decDigits,dif_pos (by omega)];simp
 | n+1,u,h=>by
  rw [Lib.decDigits]
  split
  ·simp
  ·have:=dec_len n (u/10) (by rw [Nat.pow_succ] at h;omega)
   simp;omega
theorem nodes_not (x:BT Pay):nodesT (notT x)<=nodesT x+1:=by
 cases x with
 | nil=>simp [notT]
 | node b o a l r =>
  simp only [notT]
  split
  ·simp [nodesT];omega
  ·simp [nodesT,mk]
theorem nodes_core:∀ x:BT Pay,nodesT (coreT x)<=4*nodesT x
 | .nil=>by simp [coreT,nodesT]
 | .node b o a l r=>by
  have h1:=nodes_core l
  have h2:=nodes_core r
  have h3:=nodes_not (coreT l)
  have h4:=nodes_not (coreT r)
  have h5:=nodes_not (mk 8743 ByteArray.empty 0 0 (notT (coreT l)) (notT (coreT r)))
  have h6:=nodes_not (mk 79 ByteArray.empty a.lo a.hi (notT (coreT l)) .nil)
  simp only [coreT]
  repeat' split
  all_goals simp only [nodesT,mk] at *
  all_goals omega
end Go.Proofs.YtpbbmagjhkakgaaGreatDoor
