import Derived.Test.YtpbbmagjhkakgaaGreatDoorPureToLfTape
import Derived.Test.YtpbbmagjhkakgaaGreatDoorShelfToExpect
import Derived.Lib.Strings
import Derived.Test.YtpbbmagjhkakgaaGreatDoorProg
import Derived.Maps.OwnSet
import Derived.DeepKeys4
import Derived.MapViews
namespace Go.Proofs.YtpbbmagjhkakgaaGreatDoor
def oN (c:UInt8):Prop:=48<=c.toNat/\c.toNat<=57
theorem ov (n:Nat) (h:n<10):(UInt8.ofNat (48+n)).toNat=48+n:=by
 rw [UInt8.toNat_ofNat'];omega
theorem dec_ne (u:Nat):Lib.decDigits u≠[]:=by
 have h:=Lib.decDigits_length u
 have p:=Lib.nDigits_pos u
 intro e
 rw [e] at h
 simp at h
 omega
theorem dec_dig (u:Nat):∀ c,c∈Lib.decDigits u->oN c:=by
 induction u using Nat.strongRecOn with
 | _ u ih =>
  intro c hc
  rw [Lib.decDigits] at hc
  by_cases h:u<10
  ·rw [dif_pos h] at hc
   rw [List.mem_singleton] at hc
   subst hc
   unfold oN
   rw [ov u h];omega
  ·rw [dif_neg h] at hc
   rcases List.mem_append.1 hc with hc | hc
   ·exact ih (u/10) (by omega) c hc
   ·rw [List.mem_singleton] at hc
    subst hc
    unfold oN
    rw [ov (u % 10) (by omega)];omega
theorem parse_append (l m:List UInt8):∀ acc:Nat,∀ a,Lib.parseUint10 acc l=.ok a->Lib.parseUint10 acc (l++m)=Lib.parseUint10 a m:=by
 induction l with
 | nil=>intro acc a h;simp only [Lib.parseUint10] at h;injection h with h;subst h;rfl
 | cons c l ih =>
  intro acc a h
  simp only [Lib.parseUint10,List.cons_append] at h ⊢
  split at h
  ·split at h
   ·cases h
   ·split at h
    ·cases h
    ·rename_i h1 h2 h3
     rw [if_pos h1,if_neg h2,if_neg h3]
     exact ih _ _ h
  ·cases h
theorem parse_dec (u:Nat) (hu:u<=1000000000):Lib.parseUint10 0 (Lib.decDigits u)=.ok u:=by
 induction u using Nat.strongRecOn with
 | _ u ih =>
  rw [Lib.decDigits]
  by_cases h:u<10
  ·rw [dif_pos h]
   have e:=ov u h
   simp only [Lib.parseUint10,e]
   rw [if_pos (by omega),if_neg (by omega),if_neg (by omega)]
   congr 1
   omega
  ·rw [dif_neg h,parse_append _ _ _ _ (ih (u/10) (by omega) (by omega))]
   have e:=ov (u % 10) (by omega)
   simp only [Lib.parseUint10,e]
   rw [if_pos (by omega),if_neg (by omega),if_neg (by omega)]
   congr 1
   omega
theorem dec_head (u:Nat) (hu:1<=u):(Lib.decDigits u).headD 0≠48:=by
 induction u using Nat.strongRecOn with
 | _ u ih =>
  rw [Lib.decDigits]
  by_cases h:u<10
  ·rw [dif_pos h]
   intro e
   have e2:=congrArg UInt8.toNat e
   simp only [List.headD_cons] at e2
   rw [ov u h] at e2
   have:(48:UInt8).toNat=48:=rfl
   omega
  ·rw [dif_neg h]
   have hne:=dec_ne (u/10)
   have:=ih (u/10) (by omega) (by omega)
   cases hd:Lib.decDigits (u/10) with
   | nil=>exact absurd hd hne
   | cons a l=>rw [hd] at this;simpa using this
theorem atoi_digits {l:List UInt8} (hne:l≠[]) (hd:∀ c,c∈l->oN c):Lib.atoiAll l=match Lib.parseUint10 0 l with
  | .ok u=>if 9223372036854775808<=u then .range else .ok (u:Int)
  | x=>(match x with | .ok _=>.range | .range=>.range | _=>Lib.atoiAll []):=by
 cases l with
 | nil=>exact absurd rfl hne
 | cons c r =>
  have hc:=hd c (by simp)
  unfold oN at hc
  unfold Lib.atoiAll
  simp only
  rw [if_neg (by omega)]
  unfold Lib.parseMag
  rw [if_neg (by simp)]
  cases h:Lib.parseUint10 0 (c::r) with
  | ok u =>
   have h45:¬ c.toNat=45:=by omega
   simp only [h45,not_false_eq_true,true_and,false_and,if_false]
  | _=>rfl
theorem atoi_nonneg {l:List UInt8} (hne:l≠[]) (hd:∀ c,c∈l->oN c) {v:Int} (h:Lib.atoiAll l=.ok v):0<=v:=by
 rw [atoi_digits hne hd] at h
 cases hp:Lib.parseUint10 0 l with
 | ok u =>
  rw [hp] at h
  simp only at h
  split at h
  ·cases h
  ·injection h with h;omega
 | range=>rw [hp] at h;cases h
 | _=>rw [hp] at h;cases h
theorem atoi_dec (u:Nat) (hu:u<=1000000000):Lib.atoiAll (Lib.decDigits u)=.ok (u:Int):=by
 rw [atoi_digits (dec_ne u) (dec_dig u),parse_dec u hu]
 simp only
 rw [if_neg (by omega)]
theorem si (v:Int) (h:0<=v):Lib.itoa v=Lib.decDigits v.toNat:=by unfold Lib.itoa;rw [if_neg (by omega)]
theorem numB_itoa (v:Int) (h0:0<=v) (h1:v<=1000000):vq ⟨(Lib.itoa v).toArray⟩=some v:=by
 rw [si v h0]
 unfold vq
 rw [if_neg,atoi_dec v.toNat (by omega)]
 ·have e:((v.toNat:Nat):Int)=v:=by omega
  rw [e]
  show (if 1000000<v then none else some v)=some v
  rw [if_neg (by omega)]
 ·rintro ⟨hs,hh⟩
  by_cases hv:v.toNat<10
  ·rw [Lib.decDigits,dif_pos hv] at hs
   simp [ByteArray.size] at hs
  ·exact dec_head v.toNat (by omega) hh
section
open Go.Deep (BT)
def isLet (c:UInt8):Prop:=97<=c.toNat/\c.toNat<=122
def gU (t:Tok):Prop :=
 (t.sign=97->t.word.data.toList≠[]/\∀ c,c∈t.word.data.toList->isLet c)/\(t.sign=48->t.word.data.toList≠[]/\∀ c,c∈t.word.data.toList->oN c)
theorem gU.take {ts:List Tok} (he:Ends ts) (h:∀ t,t∈ts->gU t):gU (aH ts).1/\∀ t,t∈(aH ts).2->gU t:=by
 obtain ⟨t,r,rfl⟩:=he.cons
 by_cases hs:t.sign = -1
 ·have e:aH (t::r)=(t,t::r):=by simp [aH,hs]
  rw [e]
  exact ⟨h t (by simp),h⟩
 ·have e:aH (t::r)=(t,r):=by simp [aH,hs]
  rw [e]
  exact ⟨h t (by simp),fun x hx=>h x (List.mem_cons_of_mem _ hx)⟩
theorem sr {ts r:List Tok} {s:Int} (he:Ends ts) (h:∀ t,t∈ts->gU t) (hx:bm s ts=some r):∀ t,t∈r->gU t:=by
 unfold bm at hx
 split at hx
 ·injection hx with hx;subst hx;exact (gU.take he h).2
 ·cases hx
theorem ok_num {ts r:List Tok} {v:Int} (he:Ends ts) (h:∀ t,t∈ts->gU t) (hx:p8 ts=some (v,r)):(0<=v/\v<=1000000)/\∀ t,t∈r->gU t:=by
 unfold p8 at hx
 split at hx
 ·rename_i hs
  have ht:=gU.take he h
  obtain ⟨hne,hd⟩:=ht.1.2 hs
  cases hb:vq (aH ts).1.word with
  | none=>simp [hb] at hx
  | some x =>
   simp [hb] at hx
   obtain ⟨rfl,rfl⟩:=hx
   refine ⟨?_,ht.2⟩
   unfold vq at hb
   split at hb
   ·cases hb
   ·cases ha:Lib.atoiAll (aH ts).1.word.data.toList with
    | ok u =>
     rw [ha] at hb
     have hb':(if 1000000<u then none else some u)=some x:=hb
     split at hb'
     ·cases hb'
     ·injection hb' with hb';subst hb'
      exact ⟨atoi_nonneg hne hd ha,by omega⟩
    | _=>rw [ha] at hb;cases hb
 ·cases hx
theorem ok_window {ts r:List Tok} {op a b:Int} (he:Ends ts) (h:∀ t,t∈ts->gU t) (hx:bX op ts=some ((a,b),r)):(0<=a/\a<=b/\b<=1000000)/\(lC op=false->a=0/\b=0)/\∀ t,t∈r->gU t:=by
 unfold bX at hx
 split at hx
 ·rename_i hw
  cases h1:bm 91 ts with
  | none=>simp [h1] at hx
  | some t1 =>
   have e1:=(he.expect h1).1
   have o1:=sr he h h1
   simp only [h1] at hx
   cases h2:p8 t1 with
   | none=>simp [h2] at hx
   | some x =>
    obtain ⟨a',t2⟩:=x
    have e2:=(e1.num h2).1
    have o2:=ok_num e1 o1 h2
    simp only [h2] at hx
    cases h3:bm 44 t2 with
    | none=>simp [h3] at hx
    | some t3 =>
     have e3:=(e2.expect h3).1
     have o3:=sr e2 o2.2 h3
     simp only [h3] at hx
     cases h4:p8 t3 with
     | none=>simp [h4] at hx
     | some y =>
      obtain ⟨b',t4⟩:=y
      have e4:=(e3.num h4).1
      have o4:=ok_num e3 o3 h4
      simp only [h4] at hx
      cases h5:bm 93 t4 with
      | none=>simp [h5] at hx
      | some t5 =>
       have o5:=sr e4 o4.2 h5
       simp only [h5] at hx
       split at hx
       ·cases hx
       ·injection hx with hx;injection hx with qy hx2;injection qy with qy hx3
        subst qy;subst hx2;subst hx3
        exact ⟨by omega,(fun hf=>by rw [hw] at hf;cases hf),o5⟩
 ·injection hx with hx;injection hx with qy hx2;injection qy with qy hx3
  subst qy;subst hx2;subst hx3
  exact ⟨by omega,fun _=>⟨rfl,rfl⟩,h⟩
def Gives (f:List Tok->Option (BT aO×List Tok)):Prop:=∀ ts x r,Ends ts->(∀ t,t∈ts->gU t)->f ts=some (x,r)->Good x/\∀ t,t∈r->gU t
theorem gives_step {f:List Tok->Option (BT aO×List Tok)} (hk:sU f) (hf:Gives f):Gives (jG f):=by
 intro ts x r he h hx
 have ht:=he.take
 have ho:=gU.take he h
 have oK:=he.word
 unfold jG at hx
 split at hx
 ·rename_i hs
  cases hw:jr (aH ts).1 with
  | none=>simp [hw] at hx
  | some y =>
   simp [hw] at hx
   obtain ⟨rfl,rfl⟩:=hx
   refine ⟨?_,ho.2⟩
   unfold jr at hw
   split at hw
   ·injection hw with hw;subst hw
    exact .inl ⟨rfl,rfl,rfl,rfl,rfl,rfl⟩
   ·rename_i htr
    split at hw
    ·cases hw
    ·rename_i h8
     injection hw with hw;subst hw
     obtain ⟨hne,hl⟩:=ho.1.1 hs
     refine .inr (.inl ⟨rfl,⟨?_,by show (aH ts).1.word.size<=8;omega,htr,hl⟩,rfl,rfl,rfl,rfl⟩)
     show 1<=(aH ts).1.word.size
     have:(aH ts).1.word.data.toList.length≠0:=by intro e;exact hne (List.length_eq_zero_iff.1 e)
     have e2:(aH ts).1.word.size=(aH ts).1.word.data.toList.length:=by show (aH ts).1.word.data.size=_;rw [Array.length_toList]
     omega
 ·split at hx
  ·unfold oW at hx
   cases h1:f (aH ts).2 with
   | none=>simp [h1] at hx
   | some y =>
    obtain ⟨p,t1⟩:=y
    obtain ⟨e1,_⟩:=hk _ _ _ ht.1 h1
    obtain ⟨g1,o1⟩:=hf _ _ _ ht.1 ho.2 h1
    simp only [h1] at hx
    split at hx
    ·rename_i aN
     have ht1:=e1.take
     have kK:=gU.take e1 o1
     cases h2:bX (aH t1).1.sign (aH t1).2 with
     | none=>simp [h2] at hx
     | some y =>
      obtain ⟨⟨a,b⟩,t2⟩:=y
      have e2:=(ht1.1.window h2).1
      obtain ⟨w1,w2,o2⟩:=ok_window ht1.1 kK.2 h2
      simp only [h2] at hx
      cases h3:f t2 with
      | none=>simp [h3] at hx
      | some z =>
       obtain ⟨q,t3⟩:=z
       obtain ⟨e3,_⟩:=hk _ _ _ e2 h3
       obtain ⟨g3,o3⟩:=hf _ _ _ e2 o2 h3
       simp only [h3] at hx
       cases h4:bm 41 t3 with
       | none=>simp [h4] at hx
       | some t4 =>
        have o4:=sr e3 o3 h4
        simp only [h4] at hx
        injection hx with hx;injection hx with qy hx2
        subst qy;subst hx2
        exact ⟨.inr (.inr (.inl ⟨aN,rfl,w1,w2,g1,g3⟩)),o4⟩
    ·cases hx
  ·split at hx
   ·rename_i aN
    unfold gO at hx
    cases h1:bX (aH ts).1.sign (aH ts).2 with
    | none=>simp [h1] at hx
    | some y =>
     obtain ⟨⟨a,b⟩,t1⟩:=y
     have e1:=(ht.1.window h1).1
     obtain ⟨w1,w2,o1⟩:=ok_window ht.1 ho.2 h1
     simp only [h1] at hx
     cases h2:f t1 with
     | none=>simp [h2] at hx
     | some z =>
      obtain ⟨p,t2⟩:=z
      obtain ⟨g2,o2⟩:=hf _ _ _ e1 o1 h2
      simp only [h2] at hx
      injection hx with hx;injection hx with qy hx2
      subst qy;subst hx2
      exact ⟨.inr (.inr (.inr ⟨aN,rfl,w1,w2,g2,rfl⟩)),o2⟩
   ·cases hx
theorem gives_parse:∀ n,Gives (gT n)
 | 0=>fun _ _ _ _ _ h=>by cases h
 | n+1=>gives_step (nG n) (gives_parse n)
end
theorem vI {r:Int} (h:bM r=97):97<=r/\r<=122:=by
 unfold bM at h
 repeat' split at h
 all_goals omega
theorem vH {r:Int} (h:bM r=48):48<=r/\r<=57:=by
 unfold bM at h
 repeat' split at h
 all_goals omega
theorem ux (s:ByteArray) (pos:Nat) (h:pos<s.size) (hr:(Utf8.decode s pos).1<128):(Utf8.decode s pos).2=1/\(s[pos]'h).toNat=(Utf8.decode s pos).1:=by
 by_cases ha:(s[pos]'h).toNat<128
 ·rw [decode_ascii s pos h ha];exact ⟨rfl,rfl⟩
 ·have:=(decode_high s pos h (by omega)).1;omega
theorem ja (r:Int) (h0:0<=r) (h1:r<128):(Utf8.encode r).data.toList=[UInt8.ofNat r.toNat]:=by
 have hv:Utf8.valid r=true:=by unfold Utf8.valid;simp;omega
 unfold Utf8.encode
 simp only [hv,if_true]
 rw [if_pos (by omega)]
theorem take_one (s:ByteArray) (p pos:Nat) (h:pos<s.size) (hp:p<=pos):(s.data.toList.drop p).take (pos+1-p)=(s.data.toList.drop p).take (pos-p)++[s[pos]'h]:=by
 have e:pos+1-p=(pos-p)+1:=by omega
 have hl:pos-p<(s.data.toList.drop p).length:=by
  rw [List.length_drop,Array.length_toList]
  have:s.data.size=s.size:=rfl
  omega
 rw [e,List.take_succ_eq_append_getElem hl]
 congr 2
 rw [List.getElem_drop]
 have e2:p+(pos-p)=pos:=by omega
 simp only [e2]
 rfl
def TInv (s:ByteArray) (pos:Nat) (last:Int) (bp:List Tok):Prop :=
 (∀ t,t∈bp->gU t)/\(gR last=true->∃ (ts:List Tok) (t:Tok) (p:Nat),bp=ts++[t]/\t.sign=last/\t.place=(p:Int)/\p<pos/\t.word.data.toList=(s.data.toList.drop p).take (pos-p))
theorem kp {sg:Int} (h:gR sg=true):sg=97\/sg=48:=by
 unfold gR at h
 simp at h
 exact h
theorem byte_let {c:UInt8} {r:Int} (h:(c.toNat:Int)=r) (hr:97<=r/\r<=122):isLet c:=by unfold isLet;omega
theorem byte_dig {c:UInt8} {r:Int} (h:(c.toNat:Int)=r) (hr:48<=r/\r<=57):oN c:=by unfold oN;omega
theorem scan_ok (s:ByteArray):∀ (b pos:Nat) (last:Int) (bp ts:List Tok),TInv s pos last bp->cJ s b pos last bp=some ts->∀ t,t∈ts->gU t:=by
 intro b
 have hend:gU (eS s):=⟨fun h=>absurd (show (-1:Int)=97 from h) (by decide),fun h=>absurd (show (-1:Int)=48 from h) (by decide)⟩
 have bH:∀ bp:List Tok,(∀ t,t∈bp->gU t)->∀ t,t∈bp++[eS s]->gU t:=by
  intro bp h t ht
  rcases List.mem_append.1 ht with ht | ht
  ·exact h t ht
  ·rw [List.mem_singleton] at ht;subst ht;exact hend
 induction b with
 | zero =>
  intro pos last bp ts hI h
  simp only [cJ] at h
  injection h with h;subst h
  exact bH bp hI.1
 | succ b ih =>
  intro pos last bp ts hI h
  by_cases hp:pos<s.size
  ·rw [cJ,if_pos hp] at h
   by_cases h2:bM (Utf8.decode s pos).1 = -2
   ·rw [if_pos h2] at h;cases h
   ·rw [if_neg h2] at h
    by_cases hj:bM (Utf8.decode s pos).1=last/\gR (bM (Utf8.decode s pos).1)=true
    ·rw [if_pos hj] at h
     obtain ⟨hl,hjb⟩:=hj
     obtain ⟨ts0,t,p,rfl,ht1,ht2,ht3,ht4⟩:=hI.2 (hl▸hjb)
     have hr:(97<=((Utf8.decode s pos).1:Int)/\((Utf8.decode s pos).1:Int)<=122)\/(48<=((Utf8.decode s pos).1:Int)/\((Utf8.decode s pos).1:Int)<=57):=by
      rcases kp hjb with e | e
      ·exact .inl (vI e)
      ·exact .inr (vH e)
     obtain ⟨hw,hb⟩:=ux s pos hp (by omega)
     rw [pT] at h
     have hword:(s.extract t.place.toNat (pos+1)).data.toList=t.word.data.toList++[s[pos]'hp]:=by
      rw [Lib.extract_data,ht2,Int.toNat_natCast,take_one s p pos hp (by omega),ht4]
     have hold:=hI.1 t (by simp)
     refine ih _ _ _ _ ⟨?_,?_⟩ h
     ·intro x hx
      rcases List.mem_append.1 hx with hx | hx
      ·exact hI.1 x (by simp [hx])
      ·rw [List.mem_singleton] at hx
       subst hx
       refine ⟨fun hs=>?_,fun hs=>?_⟩
       ·have qp:t.sign=97:=hs
        have u7:=vI (r:=(Utf8.decode s pos).1) (by rw [hl,<- ht1];exact qp)
        show (s.extract t.place.toNat (pos+1)).data.toList≠[]/\∀ c,c∈(s.extract t.place.toNat (pos+1)).data.toList->isLet c
        rw [hword]
        refine ⟨by simp,?_⟩
        intro c hc
        rcases List.mem_append.1 hc with hc | hc
        ·exact (hold.1 qp).2 c hc
        ·rw [List.mem_singleton] at hc;subst hc;exact byte_let (r:=(Utf8.decode s pos).1) (by omega) u7
       ·have qp:t.sign=48:=hs
        have u7:=vH (r:=(Utf8.decode s pos).1) (by rw [hl,<- ht1];exact qp)
        show (s.extract t.place.toNat (pos+1)).data.toList≠[]/\∀ c,c∈(s.extract t.place.toNat (pos+1)).data.toList->oN c
        rw [hword]
        refine ⟨by simp,?_⟩
        intro c hc
        rcases List.mem_append.1 hc with hc | hc
        ·exact (hold.2 qp).2 c hc
        ·rw [List.mem_singleton] at hc;subst hc;exact byte_dig (r:=(Utf8.decode s pos).1) (by omega) u7
     ·intro _
      refine ⟨ts0,_,p,rfl,by rw [hl];exact ht1,ht2,by omega,?_⟩
      show (s.extract t.place.toNat (pos+1)).data.toList=_
      rw [hword,hw,take_one s p pos hp (by omega),ht4]
    ·rw [if_neg hj] at h
     by_cases h32:bM (Utf8.decode s pos).1=32
     ·rw [if_pos h32] at h
      exact ih _ _ _ _ ⟨hI.1,fun hb=>by rw [h32] at hb;exact absurd hb (by decide)⟩ h
     ·rw [if_neg h32] at h
      refine ih _ _ _ _ ⟨?_,?_⟩ h
      ·intro x hx
       rcases List.mem_append.1 hx with hx | hx
       ·exact hI.1 x hx
       ·rw [List.mem_singleton] at hx
        subst hx
        refine ⟨fun hs=>?_,fun hs=>?_⟩
        ·have u7:=vI (r:=(Utf8.decode s pos).1) hs
         dsimp only
         rw [ja _ (by omega) (by omega)]
         refine ⟨by simp,?_⟩
         intro c hc
         rw [List.mem_singleton] at hc;subst hc
         refine byte_let (r:=(Utf8.decode s pos).1) ?_ u7
         rw [UInt8.toNat_ofNat'];omega
        ·have u7:=vH (r:=(Utf8.decode s pos).1) hs
         dsimp only
         rw [ja _ (by omega) (by omega)]
         refine ⟨by simp,?_⟩
         intro c hc
         rw [List.mem_singleton] at hc;subst hc
         refine byte_dig (r:=(Utf8.decode s pos).1) ?_ u7
         rw [UInt8.toNat_ofNat'];omega
      ·intro hjb
       have hr:0<=((Utf8.decode s pos).1:Int)/\((Utf8.decode s pos).1:Int)<128:=by
        rcases kp hjb with e | e
        ·have:=vI e;omega
        ·have:=vH e;omega
       obtain ⟨hw,hb⟩:=ux s pos hp (by omega)
       refine ⟨bp,_,pos,rfl,rfl,rfl,by omega,?_⟩
       dsimp only
       rw [ja _ hr.1 hr.2,hw]
       have e1:=take_one s pos pos hp (Nat.le_refl _)
       rw [e1]
       simp
       rw [<- hb]
       simp
  ·rw [mg s _ pos last bp hp] at h
   injection h with h;subst h
   exact bH bp hI.1
theorem TInv.start (s:ByteArray):TInv s 0 32 []:=⟨by simp,fun h=>absurd h (by decide)⟩
theorem readF_good {s:ByteArray} {x:Go.Deep.BT aO} {n:Int} (h:cI s=(some x,n)) (he:∀ ts,cJ s s.size 0 32 []=some ts->Ends ts):Good x:=by
 unfold cI at h
 split at h
 ·simp at h
 ·cases h1:cJ s s.size 0 32 [] with
  | none=>simp [h1] at h
  | some ts =>
   have e1:=he ts h1
   have o1:=scan_ok s _ _ _ _ _ (TInv.start s) h1
   simp only [h1] at h
   cases h2:gT ts.length ts with
   | none=>simp [h2] at h
   | some y =>
    obtain ⟨z,r⟩:=y
    have g2:=(gives_parse _ _ _ _ e1 o1 h2).1
    simp only [h2] at h
    cases h3:bm (-1) r with
    | none=>simp [h3] at h
    | some t3 =>
     simp only [h3] at h
     split at h
     ·simp at h
     ·simp at h
      obtain ⟨rfl,_⟩:=h
      exact g2
section
open Go.Deep (BT)
def strip (t:Tok):Int×List UInt8:=(t.sign,t.word.data.toList)
def tkW (a:aO):List (Int×List UInt8):=if lC a.op then [(91,[91]),(48,Lib.itoa a.lo),(44,[44]),(48,Lib.itoa a.hi),(93,[93])] else []
def tk:BT aO->List (Int×List UInt8)
 | .nil=>[]
 | .node _ _ a l r =>
  if a.op=116 then [(97,[116,114,117,101])]
  else if a.op=97 then [(97,a.name.data.toList)]
  else if a.op=8743\/a.op=8744\/a.op=83 then (40,[40])::(tk l++((a.op,cP a.op)::(tkW a++(tk r++[(41,[41])]))))
  else (a.op,cP a.op)::(tkW a++tk l)
theorem at_lt {s:ByteArray} {pos:Nat} {c:UInt8} {l:List UInt8} (h:s.data.toList.drop pos=c::l):∃ hp:pos<s.size,s[pos]'hp=c:=by
 have h1:(s.data.toList.drop pos)[0]? = some c:=by rw [h];rfl
 rw [List.getElem?_drop] at h1
 simp only [Nat.add_zero] at h1
 rw [List.getElem?_eq_some_iff] at h1
 obtain ⟨hl,he⟩:=h1
 exact ⟨by rw [Array.length_toList] at hl;exact hl,he⟩
theorem at_next {s:ByteArray} {pos:Nat} {m l:List UInt8} (h:s.data.toList.drop pos=m++l):s.data.toList.drop (pos+m.length)=l:=by
 rw [<- List.drop_drop,h];simp
theorem gK {s:ByteArray} {pos:Nat} {c:UInt8} {l:List UInt8} (h:s.data.toList.drop pos=c::l) (hc:c.toNat<128):pos<s.size/\Utf8.decode s pos=(c.toNat,1):=by
 obtain ⟨hp,he⟩:=at_lt h
 exact ⟨hp,by rw [decode_ascii s pos hp (by rw [he];exact hc),he]⟩
theorem rv {s:ByteArray} {pos k:Nat} {c:UInt8} {l:List UInt8} (h:s.data.toList.drop pos=l) (hk:l[k]? = some c):pos+k<s.size/\s.get! (pos+k)=c:=by
 rw [<- h,List.getElem?_drop,List.getElem?_eq_some_iff] at hk
 obtain ⟨hl,he⟩:=hk
 have hl2:pos+k<s.data.size:=by rw [Array.length_toList] at hl;exact hl
 refine ⟨hl2,?_⟩
 show s.data[pos+k]! = c
 rw [getElem!_pos s.data (pos+k) hl2,<- he]
 simp
theorem dec_sign {s:ByteArray} {pos:Nat} {op:Int} {l:List UInt8} (aN:oa op) (h:s.data.toList.drop pos=cP op++l):pos<s.size/\Utf8.decode s pos=(op.toNat,(cP op).length):=by
 rcases aN with rfl | rfl | rfl | rfl | rfl | rfl | rfl
 ·have h':s.data.toList.drop pos=194::172::l:=h
  have g0:=rv (k:=0) h' rfl
  have g1:=rv (k:=1) h' rfl
  refine ⟨by have:=g0.1;omega,?_⟩
  have e0:s.get! pos=194:=g0.2
  unfold Utf8.decode
  simp [e0,g1.2,g1.1]
  decide
 ·have h':s.data.toList.drop pos=226::136::167::l:=h
  have g0:=rv (k:=0) h' rfl
  have g1:=rv (k:=1) h' rfl
  have g2:=rv (k:=2) h' rfl
  refine ⟨by have:=g0.1;omega,?_⟩
  have e0:s.get! pos=226:=g0.2
  unfold Utf8.decode
  simp [e0,g1.2,g1.1,g2.1,g2.2]
  decide
 ·have h':s.data.toList.drop pos=226::136::168::l:=h
  have g0:=rv (k:=0) h' rfl
  have g1:=rv (k:=1) h' rfl
  have g2:=rv (k:=2) h' rfl
  refine ⟨by have:=g0.1;omega,?_⟩
  have e0:s.get! pos=226:=g0.2
  unfold Utf8.decode
  simp [e0,g1.2,g1.1,g2.1,g2.2]
  decide
 ·exact gK (show s.data.toList.drop pos=89::l from h) (by decide)
 ·exact gK (show s.data.toList.drop pos=79::l from h) (by decide)
 ·exact gK (show s.data.toList.drop pos=72::l from h) (by decide)
 ·exact gK (show s.data.toList.drop pos=83::l from h) (by decide)
def sA (s:ByteArray) (pos:Nat) (last:Int) (l:List UInt8) (n:Nat) (rJ:Int) (T:List (Int×List UInt8)):Prop :=
 ∀ (b:Nat) (bp:List Tok),∃ A:List Tok,A.map strip=T/\cJ s (b+n) pos last bp=cJ s b (pos+l.length) rJ (bp++A)
theorem sA.trans {s:ByteArray} {pos:Nat} {a b c:Int} {l m:List UInt8} {n k:Nat} {T U:List (Int×List UInt8)} (h:sA s pos a l n b T) (g:sA s (pos+l.length) b m k c U):sA s pos a (l++m) (k+n) c (T++U):=by
 intro q bp
 obtain ⟨A,hA,e1⟩:=h (q+k) bp
 obtain ⟨B,hB,e2⟩:=g q (bp++A)
 refine ⟨A++B,by rw [List.map_append,hA,hB],?_⟩
 rw [<- Nat.add_assoc,e1,e2,List.length_append,List.append_assoc,Nat.add_assoc]
theorem mz {s:ByteArray} {pos:Nat} (last:Int) {l:List UInt8} (h:s.data.toList.drop pos=32::l):sA s pos last [32] 1 32 []:=by
 obtain ⟨hp,hd⟩:=gK h (by decide)
 intro b bp
 refine ⟨[],rfl,?_⟩
 rw [cJ,if_pos hp,hd]
 have e:bM ((32:UInt8).toNat:Nat)=32:=by decide
 dsimp only
 rw [e,if_neg (by decide),if_neg (by intro h;exact absurd h.2 (by decide)),if_pos rfl]
 simp
theorem eats_sign {s:ByteArray} {pos r:Nat} (last:Int) {m:List UInt8} (hp:pos<s.size) (hd:Utf8.decode s pos=(r,m.length)) (h2:bM r≠-2) (hj:gR (bM r)=false) (h32:bM r≠32) (hm:(Utf8.encode r).data.toList=m) :
  sA s pos last m 1 (bM r) [(bM r,m)]:=by
 intro b bp
 refine ⟨[⟨bM r,pos,Utf8.encode r⟩],by simp only [List.map_cons,List.map_nil,strip];rw [hm],?_⟩
 rw [cJ,if_pos hp,hd]
 dsimp only
 rw [if_neg h2,if_neg (by intro h;rw [hj] at h;exact absurd h.2 (by decide)),if_neg h32]
theorem eats_op {s:ByteArray} {pos:Nat} {op:Int} (last:Int) {l:List UInt8} (aN:oa op) (h:s.data.toList.drop pos=cP op++l):sA s pos last (cP op) 1 op [(op,cP op)]:=by
 obtain ⟨hp,hd⟩:=dec_sign aN h
 have hs:bM (op.toNat:Nat)=op:=by rcases aN with rfl | rfl | rfl | rfl | rfl | rfl | rfl<;>decide
 have:=eats_sign (s:=s) (pos:=pos) (r:=op.toNat) last (m:=cP op) hp hd (by rw [hs];rcases aN with rfl | rfl | rfl | rfl | rfl | rfl | rfl<;>decide) (by rw [hs];rcases aN with rfl | rfl | rfl | rfl | rfl | rfl | rfl<;>decide) (by rw [hs];rcases aN with rfl | rfl | rfl | rfl | rfl | rfl | rfl<;>decide) (by rcases aN with rfl | rfl | rfl | rfl | rfl | rfl | rfl<;>decide)
 rw [hs] at this
 exact this
theorem eM {s:ByteArray} {pos:Nat} (c:UInt8) (last:Int) {l:List UInt8} (hc:c=40\/c=41\/c=91\/c=93\/c=44) (h:s.data.toList.drop pos=c::l):sA s pos last [c] 1 c.toNat [((c.toNat:Int),[c])]:=by
 obtain ⟨hp,hd⟩:=gK h (by rcases hc with rfl | rfl | rfl | rfl | rfl<;>decide)
 have hs:bM (c.toNat:Nat)=(c.toNat:Int):=by rcases hc with rfl | rfl | rfl | rfl | rfl<;>decide
 have:=eats_sign (s:=s) (pos:=pos) (r:=c.toNat) last (m:=[c]) hp hd (by rw [hs];rcases hc with rfl | rfl | rfl | rfl | rfl<;>decide) (by rw [hs];rcases hc with rfl | rfl | rfl | rfl | rfl<;>decide) (by rw [hs];rcases hc with rfl | rfl | rfl | rfl | rfl<;>decide) (by rcases hc with rfl | rfl | rfl | rfl | rfl<;>decide)
 rw [hs] at this
 exact this
theorem run_more {s:ByteArray} {sg:Int} (hj:gR sg=true):∀ (l:List UInt8) (pos p:Nat) (rest:List UInt8) (b:Nat) (bp:List Tok) (wd:ByteArray),s.data.toList.drop pos=l++rest->(∀ c,c∈l->c.toNat<128/\bM (c.toNat:Nat)=sg)->p<=pos->wd.data.toList=(s.data.toList.drop p).take (pos-p)->
  ∃ wd':ByteArray,wd'.data.toList=(s.data.toList.drop p).take (pos+l.length-p)/\cJ s (b+l.length) pos sg (bp++[⟨sg,p,wd⟩])=cJ s b (pos+l.length) sg (bp++[⟨sg,p,wd'⟩]):=by
 intro l
 induction l with
 | nil=>intro pos p rest b bp wd _ _ _ hw;exact ⟨wd,by simpa using hw,by simp⟩
 | cons c l ih =>
  intro pos p rest b bp wd h hc hp hw
  have hcc:=hc c (by simp)
  obtain ⟨cz,hd⟩:=gK (show s.data.toList.drop pos=c::(l++rest) from h) hcc.1
  have hnext:s.data.toList.drop (pos+1)=l++rest:=at_next (m:=[c]) h
  have hw':(s.extract p (pos+1)).data.toList=(s.data.toList.drop p).take (pos+1-p):=Lib.extract_data s p (pos+1)
  obtain ⟨wd',e1,e2⟩:=ih (pos+1) p rest b bp (s.extract p (pos+1)) hnext (fun x hx=>hc x (by simp [hx])) (by omega) hw'
  refine ⟨wd',by rw [e1];congr 1;simp;omega,?_⟩
  have e3:b+(c::l).length=(b+l.length)+1:=by simp;omega
  rw [e3,cJ,if_pos cz,hd]
  dsimp only
  rw [hcc.2,if_neg (by rcases kp hj with e | e<;>rw [e]<;>decide),if_pos ⟨rfl,hj⟩,pT]
  dsimp only
  have e4:pos+1+l.length=pos+(c::l).length:=by simp;omega
  rw [Int.toNat_natCast,e2,e4]
theorem uA {s:ByteArray} {sg:Int} (hj:gR sg=true) {l rest:List UInt8} {pos:Nat} {last:Int} (hne:l≠[]) (h:s.data.toList.drop pos=l++rest) (hc:∀ c,c∈l->c.toNat<128/\bM (c.toNat:Nat)=sg) (hl:last≠sg):sA s pos last l l.length sg [(sg,l)]:=by
 intro b bp
 cases l with
 | nil=>exact absurd rfl hne
 | cons c l =>
  have hcc:=hc c (by simp)
  obtain ⟨cz,hd⟩:=gK (show s.data.toList.drop pos=c::(l++rest) from h) hcc.1
  have hnext:s.data.toList.drop (pos+1)=l++rest:=at_next (m:=[c]) h
  have henc:(Utf8.encode (c.toNat:Nat)).data.toList=[c]:=by
   rw [ja _ (by omega) (by omega)]
   simp
  have hw:(Utf8.encode (c.toNat:Nat)).data.toList=(s.data.toList.drop pos).take (pos+1-pos):=by
   rw [henc,h]
   have:pos+1-pos=1:=by omega
   rw [this];rfl
  obtain ⟨wd',e1,e2⟩:=run_more hj l (pos+1) pos rest b bp (Utf8.encode (c.toNat:Nat)) hnext (fun x hx=>hc x (by simp [hx])) (by omega) hw
  refine ⟨[⟨sg,pos,wd'⟩],?_,?_⟩
  ·simp only [List.map_cons,List.map_nil,strip]
   rw [e1,h]
   have:pos+1+l.length-pos=(c::l).length:=by simp;omega
   rw [this,List.take_left']
   rfl
  ·have e3:b+(c::l).length=(b+l.length)+1:=by simp;omega
   rw [e3,cJ,if_pos cz,hd]
   dsimp only
   rw [hcc.2,if_neg (by rcases kp hj with e | e<;>rw [e]<;>decide),if_neg (by intro h;exact hl h.1.symm),if_neg (by rcases kp hj with e | e<;>rw [e]<;>decide),e2]
   have e4:pos+1+l.length=pos+(c::l).length:=by simp;omega
   rw [e4]
theorem signF_dig {c:UInt8} (h:oN c):c.toNat<128/\bM (c.toNat:Nat)=48:=by
 unfold oN at h
 refine ⟨by omega,?_⟩
 unfold bM
 rw [if_neg (by omega),if_neg (by omega),if_neg (by omega),if_neg (by omega),if_neg (by omega),if_pos (by omega)]
theorem signF_let {c:UInt8} (h:isLet c):c.toNat<128/\bM (c.toNat:Nat)=97:=by
 unfold isLet at h
 refine ⟨by omega,?_⟩
 unfold bM
 rw [if_neg (by omega),if_neg (by omega),if_neg (by omega),if_neg (by omega),if_pos (by omega)]
theorem itoa_dig (v:Int) (h:0<=v):Lib.itoa v≠[]/\∀ c,c∈Lib.itoa v->oN c:=by
 rw [si v h];exact ⟨dec_ne _,dec_dig _⟩
theorem uz {s:ByteArray} {pos:Nat} {last v:Int} {rest:List UInt8} (hv:0<=v) (h:s.data.toList.drop pos=Lib.itoa v++rest) (hl:last≠48):sA s pos last (Lib.itoa v) (Lib.itoa v).length 48 [(48,Lib.itoa v)] :=
 uA (by decide) (itoa_dig v hv).1 h (fun c hc=>signF_dig ((itoa_dig v hv).2 c hc)) hl
theorem eats_opW {s:ByteArray} {pos:Nat} {a:aO} (last:Int) {rest:List UInt8} (aN:oa a.op) (h0:0<=a.lo) (h1:0<=a.hi) (h:s.data.toList.drop pos=opW a++rest) :
  ∃ n rJ,n<=(opW a).length/\rJ≠97/\sA s pos last (opW a) n rJ ((a.op,cP a.op)::tkW a):=by
 have hob:1<=(cP a.op).length:=by rcases aN with e | e | e | e | e | e | e<;>rw [e]<;>decide
 cases hw:lC a.op with
 | false =>
  have e1:opW a=cP a.op:=by unfold opW;rw [hw];rfl
  have e2:tkW a=[]:=by unfold tkW;rw [hw];rfl
  rw [e1] at h ⊢
  rw [e2]
  exact ⟨1,a.op,hob,by rcases aN with e | e | e | e | e | e | e<;>rw [e]<;>decide,eats_op last aN h⟩
 | true =>
  have e1:opW a=cP a.op++([91]++(Lib.itoa a.lo++([44]++(Lib.itoa a.hi++[93])))):=by unfold opW;rw [hw];simp
  have e2:tkW a=[(91,[91]),(48,Lib.itoa a.lo),(44,[44]),(48,Lib.itoa a.hi),(93,[93])]:=by unfold tkW;rw [hw];rfl
  rw [e1] at h ⊢
  rw [e2]
  simp only [List.append_assoc] at h
  have k1:=eats_op last aN h
  have d1:=at_next h
  have k2:=eM 91 a.op (by simp) (show s.data.toList.drop _=91::_ from d1)
  have d2:=at_next (m:=[91]) d1
  have k3:=uz (last:=((91:UInt8).toNat:Int)) h0 d2 (by decide)
  have d3:=at_next d2
  have k4:=eM 44 48 (by simp) (show s.data.toList.drop _=44::_ from d3)
  have d4:=at_next (m:=[44]) d3
  have k5:=uz (last:=((44:UInt8).toNat:Int)) h1 d4 (by decide)
  have d5:=at_next d4
  have k6:=eM 93 48 (by simp) (show s.data.toList.drop _=93::_ from d5)
  refine ⟨_,_,?_,?_,k1.trans (k2.trans (k3.trans (k4.trans (k5.trans k6))))⟩
  ·simp;omega
  ·decide
theorem eats_tree {s:ByteArray}:∀ (x:BT aO),Good x->∀ (pos:Nat) (last:Int) (rest:List UInt8),s.data.toList.drop pos=aS x++rest->last≠97->∃ n rJ,n<=(aS x).length/\sA s pos last (aS x) n rJ (tk x):=by
 intro x
 induction x with
 | nil=>intro h;exact h.elim
 | node b o a l r il ir =>
  intro hg pos last rest h hl
  rcases hg with ⟨h1,_⟩ | ⟨h1,⟨n1,n2,n3,n4⟩,_⟩ | ⟨h1,_,h3,_,gl,gr⟩ | ⟨h1,_,h3,_,gl,_⟩
  ·have e1:aS (.node b o a l r)=[116,114,117,101]:=by simp only [aS];rw [if_pos h1]
   have e2:tk (.node b o a l r)=[(97,[116,114,117,101])]:=by simp only [tk];rw [if_pos h1]
   rw [e1] at h ⊢
   rw [e2]
   refine ⟨_,97,Nat.le_refl _,uA (by decide) (by simp) h ?_ hl⟩
   intro c hc
   simp at hc
   rcases hc with rfl | rfl | rfl | rfl<;>decide
  ·have e1:aS (.node b o a l r)=a.name.data.toList:=by simp only [aS];rw [if_neg (by omega),if_pos h1]
   have e2:tk (.node b o a l r)=[(97,a.name.data.toList)]:=by simp only [tk];rw [if_neg (by omega),if_pos h1]
   rw [e1] at h ⊢
   rw [e2]
   refine ⟨_,97,Nat.le_refl _,uA (by decide) ?_ h (fun c hc=>signF_let (n4 c hc)) hl⟩
   intro e
   have:a.name.data.toList.length=a.name.size:=by rw [Array.length_toList];rfl
   rw [e] at this
   simp at this
   omega
  ·have e1:aS (.node b o a l r)=[40]++(aS l++([32]++(opW a++([32]++(aS r++[41]))))):=by simp only [aS];rw [if_neg (by omega),if_neg (by omega),if_pos h1];simp
   have e2:tk (.node b o a l r)=[(40,[40])]++(tk l++([]++(((a.op,cP a.op)::tkW a)++([]++(tk r++[(41,[41])]))))):=by simp only [tk];rw [if_neg (by omega),if_neg (by omega),if_pos h1];simp
   rw [e1] at h ⊢
   rw [e2]
   simp only [List.append_assoc] at h
   have k1:=eM 40 last (by simp) (show s.data.toList.drop _=40::_ from h)
   have d1:=at_next (m:=[40]) h
   obtain ⟨m2,l2,b2,k2⟩:=il gl _ ((40:UInt8).toNat:Int) _ d1 (by decide)
   have d2:=at_next d1
   have k3:=mz l2 (show s.data.toList.drop _=32::_ from d2)
   have d3:=at_next (m:=[32]) d2
   obtain ⟨m4,l4,b4,_,k4⟩:=eats_opW 32 (a:=a) (by unfold oa;omega) (by omega) (by omega) d3
   have d4:=at_next d3
   have k5:=mz l4 (show s.data.toList.drop _=32::_ from d4)
   have d5:=at_next (m:=[32]) d4
   obtain ⟨m6,l6,b6,k6⟩:=ir gr _ 32 _ d5 (by decide)
   have d6:=at_next d5
   have k7:=eM 41 l6 (by simp) (show s.data.toList.drop _=41::_ from d6)
   refine ⟨_,_,?_,k1.trans (k2.trans (k3.trans (k4.trans (k5.trans (k6.trans k7)))))⟩
   simp;omega
  ·have e1:aS (.node b o a l r)=opW a++aS l:=by simp only [aS];rw [if_neg (by omega),if_neg (by omega),if_neg (by omega)]
   have e2:tk (.node b o a l r)=((a.op,cP a.op)::tkW a)++tk l:=by simp only [tk];rw [if_neg (by omega),if_neg (by omega),if_neg (by omega)];simp
   rw [e1] at h ⊢
   rw [e2]
   simp only [List.append_assoc] at h
   obtain ⟨m1,l1,b1,n1,k1⟩:=eats_opW last (a:=a) (by unfold oa;omega) (by omega) (by omega) h
   have d1:=at_next h
   obtain ⟨m2,l2,b2,k2⟩:=il gl _ l1 _ d1 n1
   refine ⟨_,_,?_,k1.trans k2⟩
   simp;omega
def mn:BT aO->Prop
 | .nil=>True
 | .node b o _ l r=>b=0/\o=0/\mn l/\mn r
theorem g_ {t:Tok} {ts:List Tok} {sg:Int} (h:t.sign=sg) (hs:sg≠-1):aH (t::ts)=(t,ts):=by
 have:t.sign≠-1:=by omega
 simp [aH,this]
theorem mB {t:Tok} {ts:List Tok} {sg:Int} (h:t.sign=sg) (hs:sg≠-1):bm sg (t::ts)=some ts:=by
 unfold bm
 rw [g_ h hs,if_pos h]
theorem num_tok {t:Tok} {ts:List Tok} {v:Int} (h:t.sign=48) (hw:t.word.data.toList=Lib.itoa v) (h0:0<=v) (h1:v<=1000000):p8 (t::ts)=some (v,ts):=by
 unfold p8
 rw [g_ h (by decide),if_pos h]
 have e:t.word=⟨(Lib.itoa v).toArray⟩:=rX (by simpa using hw)
 rw [show vq t.word=some v by rw [e];exact numB_itoa v h0 h1]
 rfl
theorem map_cons {ts:List Tok} {p:Int×List UInt8} {T:List (Int×List UInt8)} (h:ts.map strip=p::T):∃ t r,ts=t::r/\t.sign=p.1/\t.word.data.toList=p.2/\r.map strip=T:=by
 cases ts with
 | nil=>cases h
 | cons t r =>
  simp only [List.map_cons,List.cons.injEq] at h
  obtain ⟨h1,h2⟩:=h
  exact ⟨t,r,rfl,by rw [<- h1];rfl,by rw [<- h1];rfl,h2⟩
theorem qf {a:aO} {A rest:List Tok} (hA:A.map strip=tkW a) (hw:0<=a.lo/\a.lo<=a.hi/\a.hi<=1000000) (hz:lC a.op=false->a.lo=0/\a.hi=0):bX a.op (A++rest)=some ((a.lo,a.hi),rest):=by
 unfold bX
 unfold tkW at hA
 cases hb:lC a.op with
 | false =>
  rw [hb] at hA
  have:A=[]:=by simpa using hA
  subst this
  obtain ⟨h1,h2⟩:=hz hb
  rw [h1,h2]
  rfl
 | true =>
  rw [hb] at hA
  obtain ⟨t1,r1,rfl,s1,w1,hA⟩:=map_cons hA
  obtain ⟨t2,r2,rfl,s2,w2,hA⟩:=map_cons hA
  obtain ⟨t3,r3,rfl,s3,w3,hA⟩:=map_cons hA
  obtain ⟨t4,r4,rfl,s4,w4,hA⟩:=map_cons hA
  obtain ⟨t5,r5,rfl,s5,w5,hA⟩:=map_cons hA
  have:r5=[]:=by simpa using hA
  subst this
  simp only [List.cons_append,List.nil_append,if_true]
  rw [mB s1 (by decide)]
  simp only
  rw [num_tok s2 w2 hw.1 (by omega)]
  simp only
  rw [mB s3 (by decide)]
  simp only
  rw [num_tok s4 w4 (by omega) hw.2.2]
  simp only
  rw [mB s5 (by decide)]
  simp only
  rw [if_neg (by omega)]
theorem su:∀ (x:BT aO),Good x->mn x->∀ (n:Nat),aK x<=n->∀ (A rest:List Tok),A.map strip=tk x->gT n (A++rest)=some (x,rest):=by
 intro x
 induction x with
 | nil=>intro h;exact h.elim
 | node b o a l r il ir =>
  intro hg hz n hn A rest hA
  obtain ⟨rfl,rfl,zl,zr⟩:=hz
  obtain ⟨m,rfl⟩:∃ m,n=m+1:=⟨n-1,by simp only [aK] at hn;omega⟩
  have dl:aK l<=m:=by simp only [aK] at hn;omega
  have dr:aK r<=m:=by simp only [aK] at hn;omega
  show jG (gT m) (A++rest)=_
  unfold jG
  rcases hg with ⟨h1,h2,h3,h4,rfl,rfl⟩ | ⟨h1,⟨n1,n2,n3,n4⟩,h3,h4,rfl,rfl⟩ | ⟨h1,h2,h3,h4,gl,gr⟩ | ⟨h1,h2,h3,h4,gl,rfl⟩
  ·have e2:tk (.node 0 0 a .nil .nil)=[(97,[116,114,117,101])]:=by simp only [tk];rw [if_pos h1]
   rw [e2] at hA
   obtain ⟨t,r,rfl,s1,w1,hA⟩:=map_cons hA
   have:r=[]:=by simpa using hA
   subst this
   simp only [List.cons_append,List.nil_append]
   rw [g_ s1 (by decide),if_pos s1]
   have ew:t.word=vU:=rX (by rw [w1];rfl)
   have:jr t=some (.node 0 0 a .nil .nil):=by
    unfold jr
    rw [if_pos ew]
    cases a
    simp only at h1 h2 h3 h4
    subst h1;subst h2;subst h3;subst h4
    rfl
   rw [this];rfl
  ·have e2:tk (.node 0 0 a .nil .nil)=[(97,a.name.data.toList)]:=by simp only [tk];rw [if_neg (by omega),if_pos h1]
   rw [e2] at hA
   obtain ⟨t,r,rfl,s1,w1,hA⟩:=map_cons hA
   have:r=[]:=by simpa using hA
   subst this
   simp only [List.cons_append,List.nil_append]
   have s1':t.sign=97:=s1
   rw [g_ (sg:=97) s1' (by decide),if_pos s1']
   have ew:t.word=a.name:=rX w1
   have:jr t=some (.node 0 0 a .nil .nil):=by
    unfold jr
    rw [ew,if_neg n3,if_neg (by omega)]
    cases a
    simp only at h1 h3 h4
    subst h1;subst h3;subst h4
    rfl
   rw [this];rfl
  ·have e2:tk (.node 0 0 a l r)=(40,[40])::(tk l++((a.op,cP a.op)::(tkW a++(tk r++[(41,[41])])))):=by simp only [tk];rw [if_neg (by omega),if_neg (by omega),if_pos h1]
   rw [e2] at hA
   obtain ⟨t0,r0,rfl,s0,_,hA⟩:=map_cons hA
   obtain ⟨Al,r1,rfl,hAl,hA⟩:=List.map_eq_append_iff.1 hA
   obtain ⟨t2,r2,rfl,s2,_,hA⟩:=map_cons hA
   obtain ⟨Aw,r3,rfl,hAw,hA⟩:=List.map_eq_append_iff.1 hA
   obtain ⟨Ar,r4,rfl,hAr,hA⟩:=List.map_eq_append_iff.1 hA
   obtain ⟨t5,r5,rfl,s5,_,hA⟩:=map_cons hA
   have:r5=[]:=by simpa using hA
   subst this
   simp only [List.cons_append,List.append_assoc,List.nil_append]
   have s2':t2.sign=a.op:=s2
   rw [g_ s0 (by decide)]
   simp only
   have s0':t0.sign=40:=s0
   rw [s0',if_neg (by decide),if_pos rfl]
   unfold oW
   rw [il gl zl m dl Al _ hAl]
   simp only
   rw [g_ (sg:=a.op) s2' (by omega)]
   simp only
   rw [s2',if_pos h1,qf hAw h3 h4]
   simp only
   rw [ir gr zr m dr Ar _ hAr]
   simp only
   rw [mB s5 (by decide)]
   simp only
   cases a
   simp only at h2
   subst h2
   rfl
  ·have e2:tk (.node 0 0 a l .nil)=(a.op,cP a.op)::(tkW a++tk l):=by simp only [tk];rw [if_neg (by omega),if_neg (by omega),if_neg (by omega)]
   rw [e2] at hA
   obtain ⟨t0,r0,rfl,s0,_,hA⟩:=map_cons hA
   obtain ⟨Aw,Al,rfl,hAw,hAl⟩:=List.map_eq_append_iff.1 hA
   simp only [List.cons_append,List.append_assoc]
   have s0':t0.sign=a.op:=s0
   rw [g_ (sg:=a.op) s0' (by omega)]
   simp only
   rw [s0',if_neg (by omega),if_neg (by omega),if_pos h1]
   unfold gO
   rw [qf hAw h3 h4]
   simp only
   rw [il gl zl m dl Al _ hAl]
   simp only
   cases a
   simp only at h2
   subst h2
   rfl
theorem vT:∀ {x:BT aO},Good x->aK x<=(tk x).length
 | .node b o a l r,h=>by
  rcases h with ⟨h1,_,_,_,rfl,rfl⟩ | ⟨h1,_,_,_,rfl,rfl⟩ | ⟨h1,_,_,_,gl,gr⟩ | ⟨h1,_,_,_,gl,rfl⟩
  ·simp only [tk,aK];rw [if_pos h1];simp
  ·simp only [tk,aK];rw [if_neg (by omega),if_pos h1];simp
  ·have:=vT gl;have:=vT gr
   simp only [tk,aK];rw [if_neg (by omega),if_neg (by omega),if_pos h1];simp;omega
  ·have:=vT gl
   simp only [tk,aK];rw [if_neg (by omega),if_neg (by omega),if_neg (by omega)];simp;omega
theorem read_print (x:BT aO) (hg:Good x) (hz:mn x) (hd:aK x<=12) (hl:(aS x).length<=300):cI ⟨(aS x).toArray⟩=(some x,0):=by
 have hs:(⟨(aS x).toArray⟩:ByteArray).size=(aS x).length:=by simp [ByteArray.size]
 obtain ⟨n,rJ,hn,hE⟩:=eats_tree (s:=⟨(aS x).toArray⟩) x hg 0 32 [] (by simp) (by decide)
 obtain ⟨A,hA,e⟩:=hE ((aS x).length-n) []
 have e0:(aS x).length-n+n=(aS x).length:=by omega
 rw [e0] at e
 have e':cJ ⟨(aS x).toArray⟩ (aS x).length 0 32 []=some (A++[eS ⟨(aS x).toArray⟩]):=by
  refine e.trans ?_
  rw [mg _ _ _ _ _ (by rw [hs];omega),List.nil_append]
 unfold cI
 rw [if_neg (by rw [hs];omega),hs,e']
 simp only
 have hlen:aK x<=(A++[eS ⟨(aS x).toArray⟩]).length:=by
  have h1:=vT hg
  rw [<- hA,List.length_map] at h1
  simp;omega
 rw [su x hg hz _ hlen A _ hA]
 simp only
 have e1:bm (-1) [eS ⟨(aS x).toArray⟩]=some [eS ⟨(aS x).toArray⟩]:=by
  unfold bm aH
  rfl
 rw [e1]
 simp only
 rw [if_neg (by omega)]
structure Key where
 op:Int
 name:ByteArray
 lo:Int
 hi:Int
 l:Int
 r:Int
def keyEq (k q:Key):Bool:=decide (k.op=q.op/\k.name=q.name/\k.lo=q.lo/\k.hi=q.hi/\k.l=q.l/\k.r=q.r)
theorem oO {k q:Key}:keyEq k q=true↔k=q:=by
 unfold keyEq
 rw [decide_eq_true_iff]
 constructor
 ·rintro ⟨h1,h2,h3,h4,h5,h6⟩
  cases k;cases q
  simp only at h1 h2 h3 h4 h5 h6
  subst h1;subst h2;subst h3;subst h4;subst h5;subst h6
  rfl
 ·rintro rfl
  exact ⟨rfl,rfl,rfl,rfl,rfl,rfl⟩
def kL (K:List Key) (k:Key):Option Nat:=K.findIdx? (keyEq k)
def numI (K:List Key) (k:Key):Int:=match kL K k with | some i=>(i:Int)+1 | none=>0
def mo (K:List Key) (k:Key):Int×List Key:=match kL K k with | some i=>((i:Int)+1,K) | none=>((K.length:Int)+1,K++[k])
def aX (K:List Key):BT aO->Int×List Key
 | .nil=>(0,K)
 | .node _ _ a l r=>mo (aX (aX K l).2 r).2 ⟨a.op,a.name,a.lo,a.hi,(aX K l).1,(aX (aX K l).2 r).1⟩
def aV:BT aO->Nat
 | .nil=>0
 | .node _ _ _ l r=>aV l+aV r+1
theorem numK_lt {K:List Key} {k:Key} {i:Nat} (h:kL K k=some i):i<K.length:=by
 unfold kL at h
 exact (List.findIdx?_eq_some_iff_getElem.1 h).1
theorem addK_len (K:List Key) (k:Key):K.length<=(mo K k).2.length/\(mo K k).2.length<=K.length+1:=by
 unfold mo
 cases h:kL K k with
 | some i=>simp
 | none=>simp
theorem addK_num (K:List Key) (k:Key):1<=(mo K k).1/\(mo K k).1<=K.length+1:=by
 unfold mo
 cases h:kL K k with
 | some i=>have:=numK_lt h;simp;omega
 | none=>simp;omega
theorem kt:∀ (x:BT aO) (K:List Key),K.length<=(aX K x).2.length/\(aX K x).2.length<=K.length+aV x/\0<=(aX K x).1/\(aX K x).1<=K.length+aV x
 | .nil,K=>by simp [aX,aV]
 | .node _ _ a l r,K=>by
  have h1:=kt l K
  have h2:=kt r (aX K l).2
  have h3:=addK_len (aX (aX K l).2 r).2 ⟨a.op,a.name,a.lo,a.hi,(aX K l).1,(aX (aX K l).2 r).1⟩
  have h4:=addK_num (aX (aX K l).2 r).2 ⟨a.op,a.name,a.lo,a.hi,(aX K l).1,(aX (aX K l).2 r).1⟩
  simp only [aX,aV]
  omega
theorem rK (K:List Key) (k:Key) (h:kL K k=none):kL (K++[k]) k=some K.length:=by
 unfold kL at *
 rw [List.findIdx?_append,h]
 simp [List.findIdx?_cons,oO.2 (rfl:k=k)]
theorem qq (K:List Key) (k q:Key) (h:q≠k):kL (K++[k]) q=kL K q:=by
 unfold kL
 rw [List.findIdx?_append]
 have hf:keyEq q k=false:=by
  cases hb:keyEq q k with
  | true=>exact absurd (oO.1 hb) h
  | false=>rfl
 simp [List.findIdx?_cons,hf]
def Zeros (f:List Tok->Option (BT aO×List Tok)):Prop:=∀ ts x r,f ts=some (x,r)->mn x
theorem zeros_step {f:List Tok->Option (BT aO×List Tok)} (hf:Zeros f):Zeros (jG f):=by
 intro ts x r h
 unfold jG at h
 split at h
 ·cases hw:jr (aH ts).1 with
  | none=>simp [hw] at h
  | some y =>
   simp [hw] at h
   obtain ⟨rfl,_⟩:=h
   unfold jr at hw
   split at hw
   ·injection hw with hw;subst hw;exact ⟨rfl,rfl,trivial,trivial⟩
   ·split at hw
    ·cases hw
    ·injection hw with hw;subst hw;exact ⟨rfl,rfl,trivial,trivial⟩
 ·split at h
  ·unfold oW at h
   cases h1:f (aH ts).2 with
   | none=>simp [h1] at h
   | some y =>
    obtain ⟨p,t1⟩:=y
    have d1:=hf _ _ _ h1
    simp only [h1] at h
    split at h
    ·cases h2:bX (aH t1).1.sign (aH t1).2 with
     | none=>simp [h2] at h
     | some z =>
      obtain ⟨⟨lo,hi⟩,t2⟩:=z
      simp only [h2] at h
      cases h3:f t2 with
      | none=>simp [h3] at h
      | some z =>
       obtain ⟨q,t3⟩:=z
       have d2:=hf _ _ _ h3
       simp only [h3] at h
       cases h4:bm 41 t3 with
       | none=>simp [h4] at h
       | some t4 =>
        simp [h4] at h
        obtain ⟨rfl,_⟩:=h
        exact ⟨rfl,rfl,d1,d2⟩
    ·cases h
  ·split at h
   ·unfold gO at h
    cases h2:bX (aH ts).1.sign (aH ts).2 with
    | none=>simp [h2] at h
    | some z =>
     obtain ⟨⟨lo,hi⟩,t2⟩:=z
     simp only [h2] at h
     cases h3:f t2 with
     | none=>simp [h3] at h
     | some z =>
      obtain ⟨q,t3⟩:=z
      have d2:=hf _ _ _ h3
      simp [h3] at h
      obtain ⟨rfl,_⟩:=h
      exact ⟨rfl,rfl,d2,trivial⟩
   ·cases h
theorem zeros_parse:∀ n,Zeros (gT n)
 | 0=>fun _ _ _ h=>by cases h
 | n+1=>zeros_step (zeros_parse n)
theorem readF_zero {s:ByteArray} {x:BT aO} {n:Int} (h:cI s=(some x,n)):mn x/\aK x<=12/\n=0:=by
 unfold cI at h
 split at h
 ·simp at h
 ·cases h1:cJ s s.size 0 32 [] with
  | none=>simp [h1] at h
  | some ts =>
   simp only [h1] at h
   cases h2:gT ts.length ts with
   | none=>simp [h2] at h
   | some y =>
    obtain ⟨z,r⟩:=y
    have g2:=zeros_parse _ _ _ _ h2
    simp only [h2] at h
    cases h3:bm (-1) r with
    | none=>simp [h3] at h
    | some t3 =>
     simp only [h3] at h
     split at h
     ·simp at h
     ·simp at h
      obtain ⟨rfl,rfl⟩:=h
      exact ⟨g2,by omega,rfl⟩
theorem readF_long {s:ByteArray} (h:300<s.size):cI s=(none,1):=by unfold cI;rw [if_pos h]
theorem dec_len:∀ (n u:Nat),u<10 ^ (n+1)->(Lib.decDigits u).length<=n+1
 | 0,u,h=>by rw [Lib.decDigits,dif_pos (by omega)];simp
 | n+1,u,h=>by
  rw [Lib.decDigits]
  split
  ·simp
  ·have:=dec_len n (u/10) (by rw [Nat.pow_succ] at h;omega)
   simp;omega
theorem iI (x:BT aO):aV (bQ x)<=aV x+1:=by
 cases x with
 | nil=>simp [bQ]
 | node b o a l r =>
  simp only [bQ]
  split
  ·simp [aV];omega
  ·simp [aV,mk]
theorem tU:∀ x:BT aO,aV (ak x)<=4*aV x
 | .nil=>by simp [ak,aV]
 | .node b o a l r=>by
  have h1:=tU l
  have h2:=tU r
  have h3:=iI (ak l)
  have h4:=iI (ak r)
  have h5:=iI (mk 8743 ByteArray.empty 0 0 (bQ (ak l)) (bQ (ak r)))
  have h6:=iI (mk 79 ByteArray.empty a.lo a.hi (bQ (ak l)) .nil)
  simp only [ak]
  repeat' split
  all_goals simp only [aV,mk] at *
  all_goals omega
end
section
open Go.RowKit Go.Deep Go.Maps
def keyVal (k:Key):Value:=.agg #[.int .i32 k.op,.string k.name,.int .i64 k.lo,.int .i64 k.hi,.int .i64 k.l,.int .i64 k.r]
structure Key.OK (k:Key):Prop where
 op:(Lit.int .i32 k.op).wf=true
 name:k.name.size<=maxLen
 lo:(Lit.int .i64 k.lo).wf=true
 hi:(Lit.int .i64 k.hi).wf=true
 l:(Lit.int .i64 k.l).wf=true
 r:(Lit.int .i64 k.r).wf=true
theorem kType:Tryz.prog.keyType 226=true:=by kernel_rfl
theorem kFormed (k:Key):(keyVal k).formed Tryz.prog 226=true:=by kernel_rfl
theorem kSize:Tryz.prog.types.size=386:=by kernel_rfl
theorem kcNode:Tryz.prog.cellsOf 226=6:=by kernel_rfl
theorem kcOp:Tryz.prog.cellsOf 141=1:=by kernel_rfl
theorem kcStr:Tryz.prog.cellsOf 9=1:=by kernel_rfl
theorem kcWin:Tryz.prog.cellsOf 140=2:=by kernel_rfl
theorem kcInt:Tryz.prog.cellsOf 3=1:=by kernel_rfl
def klits (k:Key):List Lit:=[.int .i32 k.op,.string k.name.data.toList,.int .i64 k.lo,.int .i64 k.hi,.int .i64 k.l,.int .i64 k.r]
def klit (k:Key):Lit:=.string (keyBytes (klits k))
theorem lits_any (d:Nat) (k:Key) (h:k.OK):Tryz.prog.keyLits (d+1+1+1) 226 [.int .i32 k.op,.string k.name,.int .i64 k.lo,.int .i64 k.hi,.int .i64 k.l,.int .i64 k.r]=some (klits k):=by
 simp [Program.keyLits,Tryz.underlying226,Tryz.underlying141,Tryz.underlying9,Tryz.underlying140,Tryz.underlying3,kcNode,kcOp,kcStr,kcWin,kcInt,h.op,h.name,h.lo,h.hi,h.l,h.r,klits]
 rw [if_pos (by intro i hi;match i,hi with | 0,_=>simp | 1,_=>simp)]
 rfl
theorem sj (k:Key) (h:k.OK):keyOf Tryz.prog 226 (keyVal k)=some (klit k):=by
 unfold keyOf
 rw [Tryz.underlying226]
 simp only [kType,kFormed,Bool.and_self,if_true]
 rw [kSize]
 exact congrArg (Option.map fun ls=>Lit.string (keyBytes ls)) (lits_any 384 k h)
theorem laidOut:laidOutB Tryz.prog=true:=by kernel_rfl
theorem law:Keyed Tryz.prog 226:=Keyed.of_law (deep_law_laid laidOut (m:=3) (by omega) (of_decide_eq_true (by kernel_rfl)) (by kernel_rfl) (by kernel_rfl))
theorem zeroInt (w:World):(zeroValue 3).run Tryz.prog w=.ok (.int .i64 0) w:=by kernel_rfl
theorem klit_inj {k q:Key} (hk:k.OK) (hq:q.OK) (h:klit k=klit q):k=q:=by
 have e:=law.inj (sj k hk) (by rw [h];exact sj q hq)
 cases k;cases q
 simp [keyVal] at e
 obtain ⟨h1,h2,h3,h4,h5,h6⟩:=e
 subst h1;subst h2;subst h3;subst h4;subst h5;subst h6
 rfl
def iC (mb:Nat) (w:World) (K:List Key):Prop :=
 ∃ (n:Nat) (D:DataW Unit),w.ownsMap Tryz.prog 226 (plainElem Tryz.prog 3) mb n D/\n<=K.length/\Maps.size D=K.length/\(∀ k,k∈K->k.OK)/\
  ∀ k:Key,k.OK->Maps.has D (klit k)=(kL K k).isSome/\D.atKey (klit k) (.lit (.int .i64 0))=.lit (.int .i64 (numI K k))
theorem iC.lt {mb:Nat} {w:World} {K:List Key} (h:iC mb w K):mb<w.heap.size:=by obtain ⟨n,D,ho,_⟩:=h;exact ho.lt
theorem iC.made (w:World):iC w.heap.size (w.alloc (.map #[] 0)) [] :=
 ⟨0,.map [],World.ownsMap_made w _ _ _,Nat.le_refl _,rfl,by simp,fun k _=>⟨rfl,rfl⟩⟩
theorem iC.heap {mb:Nat} {w w':World} {K:List Key} (h:iC mb w K) (hb:w'.heap[mb]? = w.heap[mb]?):iC mb w' K:=by
 obtain ⟨n,D,⟨es,clock,h1,h2⟩,r⟩:=h
 exact ⟨n,D,⟨es,clock,by rw [hb];exact h1,h2⟩,r⟩
theorem iC.look {mb:Nat} {w:World} {K:List Key} (h:iC mb w K) (k:Key) (hk:k.OK) :
  (Instr.lookup 94 (.map (some mb)) (keyVal k) true).run Tryz.prog w=.ok (.tuple #[.int .i64 (numI K k),.bool (kL K k).isSome]) w:=by
 obtain ⟨n,D,ho,hn,hs,hK,nc⟩:=h
 obtain ⟨h1,h2⟩:=nc k hk
 obtain ⟨v,ps,dQ,hv⟩:=ho.look_ok law Tryz.underlying94 (zeroInt w) (plainElem_int Tryz.underlying3 (by decide)) (sj k hk)
 obtain ⟨c,rfl,hc,_⟩:=plainElem_int_inv Tryz.underlying3 hv
 have kJ:D.atKey (klit k) (.lit (.int .i64 0))=.lit (.int .i64 c):=congrArg Prod.fst hc
 have hc2:numI K k=c:=by
  have h3:=h2.symm.trans kJ
  simp only [DataW.lit.injEq,Lit.int.injEq,true_and] at h3
  exact h3
 rw [h1] at dQ
 rw [hc2]
 exact dQ
theorem iC.store {mb:Nat} {w:World} {K:List Key} (h:iC mb w K) (k:Key) (hk:k.OK) (hnew:kL K k=none) (hlen:K.length<=1000000000000000000) :
  ∃ w',(Instr.mapUpdate 94 (.map (some mb)) (keyVal k) (.int .i64 ((K.length:Int)+1))).run Tryz.prog w=.ok () w'/\iC mb w' (K++[k])/\Only mb w w':=by
 obtain ⟨n,D,ho,hn,hs,hK,nc⟩:=h
 have hwf:(Lit.int .i64 ((K.length:Int)+1)).wf=true:=WalkArith.wf_i64 (by omega)
 obtain ⟨w',dQ,ho',hg⟩:=ho.update law Tryz.underlying94 (by unfold maxLen;omega) (sj k hk) (plainElem_int Tryz.underlying3 hwf)
 have hD:=(ho.tidy law).isMap
 refine ⟨w',dQ,⟨n+1,_,ho',by simp;omega,?_,?_,?_⟩,⟨hg.os,hg.tape,hg.output,hg.size,fun i hi hne=>hg.block i hi (by simp;omega)⟩⟩
 ·rw [size_put (ho.tidy law),(nc k hk).1,hnew,hs];simp
 ·intro q hq
  rcases List.mem_append.1 hq with hq | hq
  ·exact hK q hq
  ·simp at hq;subst hq;exact hk
 ·intro q hq
  by_cases e:q=k
  ·subst e
   refine ⟨?_,?_⟩
   ·rw [has_put_same hD (law.key (sj q hk)),rK K q hnew];rfl
   ·rw [atKey_put_same hD (law.key (sj q hk))];unfold numI;rw [rK K q hnew]
  ·have hne:klit q≠klit k:=fun h=>e (klit_inj hq hk h)
   refine ⟨?_,?_⟩
   ·rw [has_put_other hne,qq K k q e];exact (nc q hq).1
   ·rw [atKey_put_other hne];unfold numI;rw [qq K k q e];exact (nc q hq).2
end
section
open Go.RowKit
set_option maxHeartbeats 400000 in
theorem joins_any (s:Int) (w:World) :
  Calls Tryz.prog 153 #[.int .i32 s] w fun e w'=>e=.returned (.bool (gR s))/\w'=w:=by
 go_enter Tryz.func153,Tryz.ntmps153
 go_wp2
 all_goals go_ret
 all_goals exact ⟨by simp_all [gR],rfl⟩
set_option maxHeartbeats 400000 in
theorem sY (s:Int) (w:World) :
  Calls Tryz.prog 165 #[.int .i32 s] w fun e w'=>e=.returned (.bool (lC s))/\w'=w:=by
 go_enter Tryz.func165,Tryz.ntmps165
 go_wp2
 all_goals go_ret
 all_goals exact ⟨by simp_all [lC],rfl⟩
set_option maxHeartbeats 1000000 in
theorem signOf_any (r:Int) (w:World) :
  Calls Tryz.prog 151 #[.int .i32 r] w fun e w'=>e=.returned (.int .i32 (bM r))/\w'=w:=by
 go_enter Tryz.func151,Tryz.ntmps151
 go_wp2
 all_goals go_ret
 all_goals refine ⟨ret_int ?_,rfl⟩
 all_goals (try simp_all [bM])
 all_goals ((repeat' split)<;>intros<;>omega)
def WindowEnd (rb:Nat) (w:World) (res:Option ((Int×Int)×List Tok)) (e:Ending) (w':World):Prop :=
 Only rb w w'/\((∃ a b r,res=some ((a,b),r)/\e=.returned (.tuple #[.agg #[.int .i64 a,.int .i64 b],.nilIface])/\gj 208 rb w' r)
  \/(res=none/\∃ fa,e=.returned (.tuple #[.agg #[.int .i64 0,.int .i64 0],.iface 201 (.pointer (some fa))])))
set_option maxHeartbeats 400000 in
theorem window_none (rb:Nat) (ts:List Tok) (op:Int) (w:World) (h:gj 208 rb w ts) (hw:lC op=false) :
  Calls Tryz.prog 186 #[.pointer (some ⟨rb,0,none⟩),.int .i32 op] w (WindowEnd rb w (bX op ts)):=by
 have hF:bX op ts=some ((0,0),ts):=by unfold bX;rw [hw];rfl
 rw [hF]
 clear hF
 go_enter Tryz.func186,Tryz.ntmps186
 go_wp2_with fail
 refine (sY op _).mono ?_
 rintro e w1 ⟨rfl,rfl⟩
 go_wp2_with fail
 refine bodyPost_ret (v:=.tuple #[.agg #[.int .i64 0,.int .i64 0],.nilIface]) (by simp [results,Tryz.results186,go_sem]) rfl ⟨?_,.inl ⟨0,0,ts,rfl,rfl,?_⟩⟩
 ·exact (Only.refl _ _).alloc _
 ·exact h.alloc _
set_option maxHeartbeats 2000000 in
theorem window_some (rb:Nat) (ts:List Tok) (op:Int) (w:World) (h:gj 208 rb w ts) (he:Ends ts) (hw:lC op=true) (hg:eh w) (qx:14<=rb) :
  Calls Tryz.prog 186 #[.pointer (some ⟨rb,0,none⟩),.int .i32 op] w (WindowEnd rb w (bX op ts)):=by
 have hrl:=h.lt
 obtain ⟨t0,r0,hts⟩:=he.cons
 obtain ⟨v,hv,rE⟩:=id h
 rw [hts] at rE
 obtain ⟨tb,off,cap,hvv,htb,cW,hmax,qy,hp1,hx2,hx3⟩:=toks_head rE
 clear qy hx2 hx3
 subst hvv
 have hc:w.cell? ⟨rb,0,none⟩=some (.slice (some ⟨tb,off,none⟩) (r0.length+1) cap):=ae hv rfl
 have htl:tb<w.heap.size:=by omega
 generalize t0.place=pl at hp1
 clear rE hv hts
 have hF:Hid (bX op ts=match bm 91 ts with
  | none=>none
  | some t1=>match p8 t1 with
   | none=>none
   | some (a,t2)=>match bm 44 t2 with
    | none=>none
    | some t3=>match p8 t3 with
     | none=>none
     | some (b,t4)=>match bm 93 t4 with
      | none=>none
      | some t5=>if b<a then none else some ((a,b),t5)):=by show _=_;unfold bX;rw [hw];rfl
 generalize bX op ts=res at *
 go_enter Tryz.func186,Tryz.ntmps186
 go_wp2_with fail
 refine (sY op _).mono ?_
 rintro e w1 ⟨rfl,rfl⟩
 go_wp2_with fail
 have k0:=aB w (.cells #[.int .i64 0,.int .i64 0] 140 (0,0)) _ rfl
 have g0:eh (w.alloc (.cells #[.int .i64 0,.int .i64 0] 140)):=hg.below ((Below.refl _ _).al _)
 have o0:Only rb w (w.alloc (.cells #[.int .i64 0,.int .i64 0] 140)):=(Only.refl _ _).alloc _
 clear hc hp1 cW hmax htb htl hg
 have hr0:=h.alloc (.cells #[.int .i64 0,.int .i64 0] 140)
 have e0:=he
 clear h he
 refine (mA rb ts 91 _ _ hr0 e0).mono ?_
 rintro e w1 ⟨kK,⟨t1,h1,rfl,hr1⟩ | ⟨h1,fa,rfl⟩⟩
 rotate_left
 ·have k1:=kK.heap k0 (by omega)
  have o1:=o0.trans kK
  clear kK
  have c0:=ae (i:=0) k1 rfl
  have c1:=ae (i:=1) k1 rfl
  have f0:w1.frozen? ⟨w.heap.size,0,none⟩=false:=Lib.frozen_of_heap k1 0
  have f1:w1.frozen? ⟨w.heap.size,1,none⟩=false:=Lib.frozen_of_heap k1 1
  clear k0 k1
  go_wp2_with fail
  refine bodyPost_ret (v:=.tuple #[.agg #[.int .i64 0,.int .i64 0],.iface 201 (.pointer (some fa))]) (by simp [results,Tryz.results186,go_sem,c0,c1]) rfl ⟨?_,.inr ⟨by rw [hF.out];simp only [h1],fa,rfl⟩⟩
  exact (o1.setCell (p:=⟨w.heap.size,0,none⟩) (.inr (Nat.le_refl _)) _).setCell (p:=⟨w.heap.size,1,none⟩) (.inr (Nat.le_refl _)) _
 have k1:=kK.heap k0 (by omega)
 have o1:=o0.trans kK
 have g1:=g0.only kK qx
 have e1:=(e0.expect h1).1
 clear k0 o0 g0 hr0 e0 kK
 go_wp2_with fail
 refine (fU rb t1 _ hr1 e1 g1 qx).mono ?_
 rintro e w2 ⟨jE,⟨a,t2,h2,rfl,u7⟩ | ⟨h2,fa,rfl⟩⟩
 rotate_left
 ·have k2:=jE.heap k1 (by omega)
  have o2:=o1.trans jE
  clear jE
  have c0:=ae (i:=0) k2 rfl
  have c1:=ae (i:=1) k2 rfl
  have f0:w2.frozen? ⟨w.heap.size,0,none⟩=false:=Lib.frozen_of_heap k2 0
  have f1:w2.frozen? ⟨w.heap.size,1,none⟩=false:=Lib.frozen_of_heap k2 1
  clear k1 k2
  go_wp2_with fail
  refine bodyPost_ret (v:=.tuple #[.agg #[.int .i64 0,.int .i64 0],.iface 201 (.pointer (some fa))]) (by simp [results,Tryz.results186,go_sem,c0,c1]) rfl ⟨?_,.inr ⟨by rw [hF.out];simp only [h1,h2],fa,rfl⟩⟩
  exact (o2.setCell (p:=⟨w.heap.size,0,none⟩) (.inr (Nat.le_refl _)) _).setCell (p:=⟨w.heap.size,1,none⟩) (.inr (Nat.le_refl _)) _
 have k2:=jE.heap k1 (by omega)
 have o2:=o1.trans jE
 have g2:=g1.only jE qx
 have e2:=(e1.num h2).1
 clear k1 o1 g1 hr1 e1 jE
 go_wp2_with fail
 refine (mA rb t2 44 _ _ u7 e2).mono ?_
 rintro e w3 ⟨n_,⟨t3,h3,rfl,hr3⟩ | ⟨h3,fa,rfl⟩⟩
 rotate_left
 ·have k3:=n_.heap k2 (by omega)
  have o3:=o2.trans n_
  clear n_
  have c0:=ae (i:=0) k3 rfl
  have c1:=ae (i:=1) k3 rfl
  have f0:w3.frozen? ⟨w.heap.size,0,none⟩=false:=Lib.frozen_of_heap k3 0
  have f1:w3.frozen? ⟨w.heap.size,1,none⟩=false:=Lib.frozen_of_heap k3 1
  clear k2 k3
  go_wp2_with fail
  refine bodyPost_ret (v:=.tuple #[.agg #[.int .i64 0,.int .i64 0],.iface 201 (.pointer (some fa))]) (by simp [results,Tryz.results186,go_sem,c0,c1]) rfl ⟨?_,.inr ⟨by rw [hF.out];simp only [h1,h2,h3],fa,rfl⟩⟩
  exact (o3.setCell (p:=⟨w.heap.size,0,none⟩) (.inr (Nat.le_refl _)) _).setCell (p:=⟨w.heap.size,1,none⟩) (.inr (Nat.le_refl _)) _
 have k3:=n_.heap k2 (by omega)
 have o3:=o2.trans n_
 have g3:=g2.only n_ qx
 have e3:=(e2.expect h3).1
 clear k2 o2 g2 u7 e2 n_
 go_wp2_with fail
 refine (fU rb t3 _ hr3 e3 g3 qx).mono ?_
 rintro e w4 ⟨ho4,⟨b,t4,h4,rfl,hr4⟩ | ⟨h4,fa,rfl⟩⟩
 rotate_left
 ·have k4:=ho4.heap k3 (by omega)
  have o4:=o3.trans ho4
  clear ho4
  have c0:=ae (i:=0) k4 rfl
  have c1:=ae (i:=1) k4 rfl
  have f0:w4.frozen? ⟨w.heap.size,0,none⟩=false:=Lib.frozen_of_heap k4 0
  have f1:w4.frozen? ⟨w.heap.size,1,none⟩=false:=Lib.frozen_of_heap k4 1
  clear k3 k4
  go_wp2_with fail
  refine bodyPost_ret (v:=.tuple #[.agg #[.int .i64 0,.int .i64 0],.iface 201 (.pointer (some fa))]) (by simp [results,Tryz.results186,go_sem,c0,c1]) rfl ⟨?_,.inr ⟨by rw [hF.out];simp only [h1,h2,h3,h4],fa,rfl⟩⟩
  exact (o4.setCell (p:=⟨w.heap.size,0,none⟩) (.inr (Nat.le_refl _)) _).setCell (p:=⟨w.heap.size,1,none⟩) (.inr (Nat.le_refl _)) _
 have k4:=ho4.heap k3 (by omega)
 have o4:=o3.trans ho4
 have g4:=g3.only ho4 qx
 have e4:=(e3.num h4).1
 clear k3 o3 g3 hr3 e3 ho4
 go_wp2_with fail
 refine (mA rb t4 93 _ _ hr4 e4).mono ?_
 rintro e w5 ⟨ho5,⟨t5,h5,rfl,hr5⟩ | ⟨h5,fa,rfl⟩⟩
 rotate_left
 ·have k5:=ho5.heap k4 (by omega)
  have o5:=o4.trans ho5
  clear ho5
  have c0:=ae (i:=0) k5 rfl
  have c1:=ae (i:=1) k5 rfl
  have f0:w5.frozen? ⟨w.heap.size,0,none⟩=false:=Lib.frozen_of_heap k5 0
  have f1:w5.frozen? ⟨w.heap.size,1,none⟩=false:=Lib.frozen_of_heap k5 1
  clear k4 k5
  go_wp2_with fail
  refine bodyPost_ret (v:=.tuple #[.agg #[.int .i64 0,.int .i64 0],.iface 201 (.pointer (some fa))]) (by simp [results,Tryz.results186,go_sem,c0,c1]) rfl ⟨?_,.inr ⟨by rw [hF.out];simp only [h1,h2,h3,h4,h5],fa,rfl⟩⟩
  exact (o5.setCell (p:=⟨w.heap.size,0,none⟩) (.inr (Nat.le_refl _)) _).setCell (p:=⟨w.heap.size,1,none⟩) (.inr (Nat.le_refl _)) _
 have k5:=ho5.heap k4 (by omega)
 have o5:=o4.trans ho5
 have g5:=g4.only ho5 qx
 have e5:=(e4.expect h5).1
 clear k4 o4 g4 hr4 e4 ho5
 have c0:=ae (i:=0) k5 rfl
 have c1:=ae (i:=1) k5 rfl
 have f0:w5.frozen? ⟨w.heap.size,0,none⟩=false:=Lib.frozen_of_heap k5 0
 have f1:w5.frozen? ⟨w.heap.size,1,none⟩=false:=Lib.frozen_of_heap k5 1
 have cz:w.heap.size<w5.heap.size:=aw k5
 have hF2:Hid (res=if b<a then none else some ((a,b),t5)):=by show _=_;rw [hF.out];simp only [h1,h2,h3,h4,h5]
 clear hF h1 h2 h3 h4 h5
 by_cases hba:b<a
 ·go_wp2_with fail
  refine bodyPost_ret (v:=.tuple #[.agg #[.int .i64 0,.int .i64 0],.iface 201 (.pointer (some ⟨w5.heap.size,0,none⟩))]) (by simp [results,Tryz.results186,go_sem,c0,c1,cz]) rfl ⟨?_,.inr ⟨by rw [hF2.out,if_pos hba],_,rfl⟩⟩
  exact ((o5.setCell (p:=⟨w.heap.size,0,none⟩) (.inr (Nat.le_refl _)) _).setCell (p:=⟨w.heap.size,1,none⟩) (.inr (Nat.le_refl _)) _).alloc _
 ·go_wp2_with fail
  refine bodyPost_ret (v:=.tuple #[.agg #[.int .i64 a,.int .i64 b],.nilIface]) (by simp [results,Tryz.results186,go_sem,c0,c1]) rfl ⟨?_,.inl ⟨a,b,t5,by rw [hF2.out,if_neg (by omega)],rfl,?_⟩⟩
  ·exact (o5.setCell (p:=⟨w.heap.size,0,none⟩) (.inr (Nat.le_refl _)) _).setCell (p:=⟨w.heap.size,1,none⟩) (.inr (Nat.le_refl _)) _
  ·exact (hr5.setCell (p:=⟨w.heap.size,0,none⟩) hrl _).setCell (p:=⟨w.heap.size,1,none⟩) hrl _
theorem window_any (rb:Nat) (ts:List Tok) (op:Int) (w:World) (h:gj 208 rb w ts) (he:Ends ts) (hg:eh w) (qx:14<=rb) :
  Calls Tryz.prog 186 #[.pointer (some ⟨rb,0,none⟩),.int .i32 op] w (WindowEnd rb w (bX op ts)):=by
 cases hw:lC op with
 | true=>exact window_some rb ts op w h he hw hg qx
 | false=>exact window_none rb ts op w h hw
end
end Go.Proofs.YtpbbmagjhkakgaaGreatDoor
