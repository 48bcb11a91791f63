import Derived.Test.YtpbbmagjhkakgaaGreatDoorA3
import Derived.Test.YtpbbmagjhkakgaaGreatDoorA4
import Derived.Stop.Asserts
import Derived.RowKitTokens
namespace Go.Proofs.YtpbbmagjhkakgaaGreatDoor
set_option maxHeartbeats 2000000
open Tryz Go.RowKit Go.Deep Go.Extern.Stop Go.Stop Go.Extern
theorem MN(a:Nat)(b:aB Tok)(d:Int)(c:aZ)(w:aC)(h:ky 208 a w b)(i:Ends b)(j:(bL b).1.sign=d):
  Calls prog 115 #[Pt a,.int .i32 d,.string c] w λe f=>e=.returned .nilIface/\Only a w f/\ky 208 a f (bL b).2:=by
 subst j;go_enter func115,ntmps115;go_wp2_with fail;refine(sj a b _ h i).m λl ⟨g,k⟩=>?_;go_wp2;go_ret;exact⟨rfl,g.alloc _,k.alloc _⟩
theorem P'(a:Nat)(b:aB Tok)(d:Int)(c:aZ)(w:aC)(h:ky 208 a w b)(i:Ends b)(l:((bL b).1.sign !=d)=true):
  Calls prog 115 #[Pt a,.int .i32 d,.string c] w λe j=>∃g,e=.returned (.iface 201 (.pointer (some g)))/\Only a w j:=by
 go_enter func115,ntmps115;go_wp2_with fail;refine(sj a b _ h i).m λk ⟨f,m⟩=>?_;go_wp2;go_ret;exact⟨_,rfl,(f.alloc _).alloc _⟩
theorem Aw(s w)(a:s.size<=281474976710656):
  Calls prog 136 #[.string s] w λe w'=>e=.returned (.string s)/\Bl w w':=by
 go_enter func136,ntmps136;go_wp2_with fail;refine(stringslite_Clone s w a).m λc b=>?_;go_wp2;go_ret;exact⟨rfl,b⟩
theorem pN(d:Nat)(b:aB Tok)(c:Int)(a:aZ)(w:aC)(h:ky 208 d w b)(k:Ends b):
  Calls prog 115 #[Pt d,.int .i32 c,.string a] w λe g=>Only d w g/\((∃r,cT c b=some r/\e=.returned .nilIface/\ky 208 d g r)
   \/(cT c b=none/\∃j,e=.returned (.iface 201 (.pointer (some j))))):=by
 by_cases f:(bL b).1.sign=c
 .refine(MN d b c a w h k f).m λg ⟨i,l⟩=>?_;exact⟨i,.inl ⟨_,by unfold cT;rw[bY f],rfl,l⟩⟩
 .refine(P' d b c a w h k (by simp[f])).mono ?_;rintro e g ⟨j,rfl,i⟩;exact⟨i,.inr ⟨by unfold cT;rw[bN f],j,rfl⟩⟩
theorem Rx(c b w):
  Calls prog 155 #[.agg #[.int .i32 c,Iv b,.string ET]] w λe a=>∃v,e=.returned (.tuple #[v,.nilIface])/\bG 143 w.heap.size a (mk 116 ByteArray.empty 0 0 .nil .nil) v/\Bl w a:=by
 unfold ET;go_enter func155,ntmps155;go_wp2;go_ret2;exact⟨_,rfl,oU (rj _) (aP _ _ _ aE) rfl rfl,(aT.alloc aX _).alloc aE _⟩
theorem Rv(f c a w)(i:(a.toList==[116,114,117,101])=false)(h:8<a.size)(d:a.size<=maxLen):
  Calls prog 155 #[.agg #[.int .i32 f,Iv c,.string a]] w λe g=>∃b,e=.returned (.tuple #[.pointer none,.iface 201 (.pointer (some b))])/\Bl w g:=by
 unfold maxLen at d;go_enter func155,ntmps155;go_wp2
 go_region
 all_goals go_wp2
 all_goals go_ret2
 all_goals exact⟨_,rfl,by repeat(first|exact aT|refine L_ ?_|refine Below.al ?_ _)⟩
theorem Rw(g f a w)(i:(a.toList==[116,114,117,101])=false)(h:a.size<=8):
  Calls prog 155 #[.agg #[.int .i32 g,Iv f,.string a]] w λe c=>∃v,e=.returned (.tuple #[v,.nilIface])/\bG 143 w.heap.size c (mk 97 a 0 0 .nil .nil) v/\Bl w c:=by
 go_enter func155,ntmps155;go_wp2_with fail;refine(Aw a _ aA).m λd b=>?_;go_wp2;go_ret2;let j:w.heap.size+1<=d.heap.size:=by have:=b.size;simpa using this
 refine⟨_,rfl,oU aA (aP _ _ _ rfl) rfl rfl,?_⟩;exact((aT.alloc aX _).trans (b.mono aE)).alloc aA _
structure ju(w:aC):Prop where
 syn:∃te pe,w.cell? (Ad (10) 0)=some (.iface te pe)
 rng:∃te pe,w.cell? (Ad (11) 0)=some (.iface te pe)
theorem Sk(s)(d:s.size<=281474976710656)(w)(g:ju w):
  Calls prog 210 #[.string s] w λe a=>Bl w a/\((∃v,Lib.atoiAll s.data.toList=.ok v/\e=.returned (.tuple #[Iv v,.nilIface]))\/((∀v,Lib.atoiAll s.data.toList≠.ok v)/\∃v i f,e=.returned (.tuple #[Iv v,.iface i f]))):=by
 let⟨⟨t1,p1,h1⟩,⟨t2,p2,h2⟩⟩:=g;rcases h:Lib.atoiAll s.data.toList with v|_|_
 .refine(strconv_Atoi_ok s aA v h w).m λa hw=>?_;refine⟨?_,.inl ⟨v,rfl,rfl⟩⟩;obtain rfl|⟨t,rfl⟩:=hw
  .exact aT
  .exact Lib.bytesWorld_below w _ t
 .refine(strconv_Atoi_syntax s d h _ w h1 (.inr ⟨_,_,rfl⟩)).mono ?_;rintro e a ⟨n,rfl,_,_,c⟩;exact⟨c,.inr ⟨λv b=>by(cases b),_,_,_,rfl⟩⟩
 .refine(strconv_Atoi_range s d h _ w h2 (.inr ⟨_,_,rfl⟩)).mono ?_;rintro e a ⟨n,rfl,_,_,c⟩;exact⟨c,.inr ⟨λv b=>by(cases b),_,_,_,rfl⟩⟩
theorem ju.only{s w w'}(h:ju w)(b:Only s w w')(e:14<=s):ju w':=by
 let⟨⟨t1,p1,h1⟩,⟨t2,p2,h2⟩⟩:=h;let c:∀k,k<14->k<w.heap.size->w'.cell? (Ad k 0)=w.cell? (Ad k 0):=λk f d=>fT (w:=w) (a:=(Ad k 0)) (b.block k d aA);exact⟨⟨t1,p1,by rw[c 10 aA (eS h1)];exact h1⟩,⟨t2,p2,by rw[c 11 aA (eS h2)];exact h2⟩⟩
theorem ju.below{w a}(h:ju w)(b:Bl w a):ju a:=h.only (s:=14) (Only.aR b) aX
theorem QG(a:Nat)(b:aB Tok)(w:aC)(h:ky 208 a w b)(f:Ends b)(j:((bL b).1.sign !=48)=true):
  Calls prog 204 #[Pt a] w λe g=>∃d,e=.returned (.tuple #[Iv 0,.iface 201 (.pointer (some d))])/\Only a w g:=by
 go_enter func204,ntmps204;go_wp2_with fail;refine(sj a b _ h f).m λi ⟨c,k⟩=>?_;go_wp2
 go_region
 all_goals go_wp2
 all_goals go_ret2
 all_goals exact⟨_,rfl,by repeat(first|exact c|refine Only.drew ?_|refine Only.alloc ?_ _)⟩
theorem KZ(a rest g b w)
  (d:Calls prog 154 #[Pt a] w λe c=>e=.returned (.agg #[.int .i32 48,Iv g,.string b])/\Only a w c/\ky 208 a c rest)
  (k:b.size<=281474976710656) (i:0<b.size) (n:1<b.size) (m:(((b[0]'i).toNat:Int)==48)=true):
  Calls prog 204 #[Pt a] w λe c=>Only a w c/\∃h,e=.returned (.tuple #[Iv 0,.iface 201 (.pointer (some h))]):=by
 go_enter func204,ntmps204;go_wp2_with fail;refine d.m λj ⟨f,l⟩=>?_;go_wp2
 go_region
 all_goals go_wp2
 all_goals go_ret2
 all_goals exact⟨by repeat(first|exact f|refine Only.drew ?_|refine Only.alloc ?_ _),_,rfl⟩
theorem BP(b rest h a w)
  (i:Calls prog 154 #[Pt b] w λe d=>e=.returned (.agg #[.int .i32 48,Iv h,.string a])/\Only b w d/\ky 208 b d rest)
  (t:ju w) (k:14<=b) (y:a.size<=281474976710656) (n:¬1<a.size\/∃o:0<a.size,1<a.size/\(((a[0]'o).toNat:Int)==48)=false):
  Calls prog 204 #[Pt b] w λe d=>Only b w d/\((∃v,BR (Lib.atoiAll a.data.toList)=some v/\e=.returned (.tuple #[Iv v,.nilIface])/\ky 208 b d rest)\/(BR (Lib.atoiAll a.data.toList)=none/\∃x,e=.returned (.tuple #[Iv 0,.iface 201 (.pointer (some x))]))):=by
 obtain s|⟨o,s,n⟩:=n
 all_goals
  go_enter func204,ntmps204;go_wp2_with fail;refine i.m λg ⟨l,r⟩=>?_;go_wp2_with fail;apply(Sk a y _ ((t.only l k).below (aT.al _))).mono;rintro e q ⟨f,⟨v,j,rfl⟩|⟨j,v,B,A,rfl⟩⟩
  .let c:=(l.alloc _).tb f;let m:Hid (BR (Lib.atoiAll a.data.toList)=if 1000000<v then none else some v):=by rw[j];rfl
   let u:q.cell? (Ad g.heap.size 1)=some (Iv h):=by rw[f.cell (p:=(Ad g.heap.size 1)) aE];simp
   by_cases z:1000000<v
   .go_wp2
    go_region
    all_goals go_wp2
    all_goals go_ret2
    all_goals exact⟨by repeat(first|exact c|refine Only.drew ?_|refine Only.alloc ?_ _),.inr ⟨by rw[m.out,bY aA],_,rfl⟩⟩
   .go_wp2;go_ret2;exact⟨c,.inl ⟨v,by rw[m.out,bN aA],rfl,(r.alloc _).below f⟩⟩
  .let u:q.cell? (Ad g.heap.size 1)=some (Iv h):=by rw[f.cell (p:=(Ad g.heap.size 1)) aE];simp
   go_wp2
   go_region
   all_goals go_wp2
   all_goals go_ret2
   all_goals exact⟨by repeat(first|exact((l.alloc _).tb f)|refine Only.drew ?_|refine Only.alloc ?_ _),.inr ⟨Ns j,_,rfl⟩⟩
theorem KY(d:Nat)(b:aB Tok)(w:aC)(h:ky 208 d w b)(q:Ends b)(r:(bL b).1.sign=48)(p:ju w)(i:14<=d)(l:(bL b).1.word.size<=281474976710656):
  Calls prog 204 #[Pt d] w λe k=>Only d w k/\((∃v,wY (bL b).1.word=some v/\e=.returned (.tuple #[Iv v,.nilIface])/\ky 208 d k (bL b).2)\/(wY (bL b).1.word=none/\∃s,e=.returned (.tuple #[Iv 0,.iface 201 (.pointer (some s))]))):=by
 have c:=sj d b w h q;rw[r]at c;generalize(bL b).1.word=a at*;generalize(bL b).1.place=j at*;by_cases g:1<a.size
 .have n:0<a.size:=by omega
  have o:=S1 a n;by_cases f:a.data.toList.headD 0=48
  .refine(KZ d _ j a w c l n g ?_).mono ?_
   .rw[o]at f;rw[f];decide
   .rintro e k ⟨t,u⟩;exact⟨t,.inr ⟨by unfold wY;rw[bY ⟨g,f⟩],u⟩⟩
  .refine(BP d _ j a w c p i l (.inr ⟨n,g,?_⟩)).mono ?_
   .rw[o]at f;rw[ri];intro h;apply f;apply sC.1;show a[0].toNat=48;omega
   .have m:wY a=BR (Lib.atoiAll a.data.toList):=by unfold wY;rw[bN (by intro h;exact f h.2)]
    rw[m];exact λ_ _ h=>h
 .refine(BP d _ j a w c p i l (.inl g)).mono ?_;have m:wY a=BR (Lib.atoiAll a.data.toList):=by unfold wY;rw[bN (by intro h;exact g h.1)]
  rw[m];exact λ_ _ h=>h
theorem Ek(a:Nat)(b:aB Tok)(w:aC)(h:ky 208 a w b)(k:Ends b)(l:ju w)(i:14<=a):
  Calls prog 204 #[Pt a] w λe g=>Only a w g/\((∃v r,qt b=some (v,r)/\e=.returned (.tuple #[Iv v,.nilIface])/\ky 208 a g r)
   \/(qt b=none/\∃c,e=.returned (.tuple #[Iv 0,.iface 201 (.pointer (some c))]))):=by
 by_cases d:(bL b).1.sign=48
 .refine(KY a b w h k d l i (by have:=k.word;omega)).mono ?_;rintro e g ⟨f,⟨v,j,rfl,m⟩|⟨j,c,rfl⟩⟩
  .exact⟨f,.inl ⟨v,_,by unfold qt;rw[bY d,j];rfl,rfl,m⟩⟩
  .exact⟨f,.inr ⟨by unfold qt;rw[bY d,j];rfl,c,rfl⟩⟩
 .refine(QG a b w h k (by simp[d])).mono ?_;rintro e g ⟨c,rfl,f⟩;exact⟨f,.inr ⟨by unfold qt;rw[bN d],c,rfl⟩⟩
def Ao(rb:Nat)(w:aC)(res:aQ ((Int×Int)×aB Tok))(e:Ending)(w':aC):Prop:=
 Only rb w w'/\((∃a b r,res=some ((a,b),r)/\e=.returned (.tuple #[.agg #[Iv a,Iv b],.nilIface])/\ky 208 rb w' r)
  \/(res=none/\∃c,e=.returned (.tuple #[.agg #[Iv 0,Iv 0],.iface 201 (.pointer (some c))])))
theorem LV(rb:Nat)(a:aB Tok)(op:Int)(w:aC)(h:ky 208 rb w a)(hw:lY op=false):
  Calls prog 186 #[Pt rb,.int .i32 op] w (Ao rb w (dZ op a)):=by
 let b:dZ op a=some ((0,0),a):=by unfold dZ;rw[hw];rfl
 rw[b];go_enter func186,ntmps186;go_wp2_with fail;apply(qZ op _).m0;go_wp2_with fail;exact Aa (v:=.tuple #[.agg #[Iv 0,Iv 0],.nilIface]) (by simp[results,results186,go_sem]) rfl ⟨(Only.refl _ _).alloc _,.inl ⟨0,0,a,rfl,rfl,h.alloc _⟩⟩
structure JO(rb b:Nat)(w0 w:aC):Prop where
 k:w.heap[b]?=some (.cells #[Iv 0,Iv 0] 140 (0,0))
 o:Only rb w0 w
 g:ju w
section
variable{rb b:Nat}{w0 w w':aC}
theorem JO.only(h:JO rb b w0 w)(c:Only rb w w')(a:14<=rb)(d:rb<b):JO rb b w0 w':=⟨c.heap h.k aA,h.o.trans c,h.g.only c a⟩
theorem JO.c(h:JO rb b w0 w):w.cell? (Ad b 0)=some (Iv 0)/\w.cell? (Ad b 1)=some (Iv 0)/\w.frozen? (Ad b 0)=false/\w.frozen? (Ad b 1)=false:=⟨aD h.k rfl,aD h.k rfl,cJ h.k 0,cJ h.k 1⟩
theorem JO.s(h:JO rb w0.heap.size w0 w)(u v):Only rb w0 ((w.setCell (Ad w0.heap.size 0) u).setCell (Ad w0.heap.size 1) v):=(h.o.setCell (p:=(Ad w0.heap.size 0)) (.inr aX) _).setCell (p:=(Ad w0.heap.size 1)) (.inr aX) _
end
theorem ZN{T:bQ} (h:T:=by
 have K:=K.only ho WY WZ;obtain⟨c0,c1,f0,f1⟩:=K.c;go_wp2_with fail;exact Aa (v:=.tuple #[.agg #[Iv 0,Iv 0],.iface 201 (.pointer (some fa))]) (by simp[results,results186,go_sem,c0,c1]) rfl ⟨K.s _ _,.inr ⟨by rw[hF.out];simp only[*],fa,rfl⟩⟩):T:=h
theorem LW(rb:Nat)(c:aB Tok)(op:Int)(w:aC)(h:ky 208 rb w c)(n:Ends c)(hw:lY op=true)(P:ju w)(WY:14<=rb):
  Calls prog 186 #[Pt rb,.int .i32 op] w (Ao rb w (dZ op c)):=by
 have WZ:=h.lt;have⟨t0,r0,hts⟩:=n.cons;have⟨v,hv,htk⟩:=id h;rw[hts]at htk;obtain⟨tb,off,cap,J,u,m,k,t,g,C,F⟩:=Hh htk;clear t C F;subst J;have T:w.cell? (Ad rb 0)=some (.slice (some (Ad tb off)) (r0.length+1) cap):=aD hv rfl;have A:tb<w.heap.size:=aA;generalize t0.place=V at g;clear htk hv hts;have hF:Hid (dZ op c=match cT 91 c with
  |none=>none
  |some N=>match qt N with
   |none=>none
   |some (a,x)=>match cT 44 x with
    |none=>none
    |some H=>match qt H with
     |none=>none
     |some (b,D)=>match cT 93 D with
      |none=>none
      |some o=>if b<a then none else some ((a,b),o)):=by show _=_;unfold dZ;rw[hw];rfl
 generalize dZ op c=res at*;go_enter func186,ntmps186;go_wp2_with fail;apply(qZ op _).mono;rintro e R ⟨rfl,rfl⟩;go_wp2_with fail;have K:JO rb w.heap.size w (w.alloc (.cells #[Iv 0,Iv 0] 140)):=⟨aP _ _ _ rfl,(Only.refl _ _).alloc _,P.below (aT.al _)⟩;clear T g m k u A P;have d:=h.alloc (.cells #[Iv 0,Iv 0] 140);clear h;apply(pN rb c 91 _ _ d n).mono;rintro e R ⟨ho,⟨N,B,rfl,f⟩|⟨B,fa,rfl⟩⟩
 rotate_left
 .exact ZN
 replace K:=K.only ho WY WZ;have L:=(n.expect B).1;clear ho d n;go_wp2_with fail;apply(Ek rb N _ f L K.g WY).mono;rintro e Y ⟨ho,⟨a,x,q,rfl,i⟩|⟨q,fa,rfl⟩⟩
 rotate_left
 .exact ZN
 replace K:=K.only ho WY WZ;have z:=(L.num q).1;clear ho f L;go_wp2_with fail;apply(pN rb x 44 _ _ i z).mono;rintro e W ⟨ho,⟨H,G,rfl,j⟩|⟨G,fa,rfl⟩⟩
 rotate_left
 .exact ZN
 replace K:=K.only ho WY WZ;have M:=(z.expect G).1;clear ho i z;go_wp2_with fail;apply(Ek rb H _ j M K.g WY).mono;rintro e X ⟨ho,⟨b,D,y,rfl,r⟩|⟨y,fa,rfl⟩⟩
 rotate_left
 .exact ZN
 replace K:=K.only ho WY WZ;have U:=(M.num y).1;clear ho j M;go_wp2_with fail;apply(pN rb D 93 _ _ r U).mono;rintro e S ⟨ho,⟨o,Q,rfl,I⟩|⟨Q,fa,rfl⟩⟩
 rotate_left
 .exact ZN
 replace K:=K.only ho WY WZ;have⟨c0,c1,f0,f1⟩:=K.c;have s:=aL K.k;have O:=K.s;have l:Hid (res=if b<a then none else some ((a,b),o)):=by show _=_;rw[hF.out];simp only[B,q,G,y,Q]
 by_cases E:b<a
 .go_wp2_with fail;refine Aa (v:=.tuple #[.agg #[Iv 0,Iv 0],.iface 201 (Pt S.heap.size)]) (by simp[results,results186,go_sem,c0,c1,s]) rfl ⟨?_,.inr ⟨by rw[l.out,bY E],_,rfl⟩⟩;exact(O _ _).alloc _
 .go_wp2_with fail;exact Aa (v:=.tuple #[.agg #[Iv a,Iv b],.nilIface]) (by simp[results,results186,go_sem,c0,c1]) rfl ⟨O _ _,.inl ⟨a,b,o,by rw[l.out,bN aA],rfl,(I.setCell (p:=(Ad w.heap.size 0)) WZ _).setCell (p:=(Ad w.heap.size 1)) WZ _⟩⟩
theorem EY(rb:Nat)(a:aB Tok)(op:Int)(w:aC)(h:ky 208 rb w a)(d:Ends a)(c:ju w)(b:14<=rb):
  Calls prog 186 #[Pt rb,.int .i32 op] w (Ao rb w (dZ op a)):=by
 cases hw:lY op with
 |true=>exact LW rb a op w h d hw c b
 |false=>exact LV rb a op w h hw
def Ic(a:Nat)(w:aC)(res:aQ (BT c_×aB Tok))(e:Ending)(b:aC):Prop:=
 Only a w b/\((∃x r v,res=some (x,r)/\e=.returned (.tuple #[v,.nilIface])/\bG 143 (a+1) b x v/\ky 208 a b r)
  \/(res=none/\∃c,e=.returned (.tuple #[.pointer none,.iface 201 (.pointer (some c))])))
def Dh(n:Nat)(f:aB Tok->aQ (BT c_×aB Tok)):Prop:=
 ∀(b:Nat)(a:aB Tok)(w:aC),ky 208 b w a->Ends a->ju w->14<=b->a.length<=n->
  Calls prog 114 #[Pt b] w (Ic b w (f a))
theorem Od(n:Nat)(f:aB Tok->aQ (BT c_×aB Tok))(J:Dh n f)(k:Nat)(d:aB Tok)(op:Int)(w:aC)(h:ky 208 k w d)(A:Ends d)(D:ju w)(j:14<=k)(L:d.length<=n):
  Calls prog 157 #[Pt k,.int .i32 op] w (Ic k w (kp f op d)):=by
 have q:Hid (kp f op d=match dZ op d with
  |none=>none
  |some ((a,b),z)=>match f z with
   |none=>none
   |some (p,r)=>some (mk op ByteArray.empty a b p .nil,r)):=rfl
 generalize kp f op d=res at*;have I:=h.lt;go_enter func157,ntmps157;go_wp2_with fail;apply(EY k d op w h A D j).mono;rintro e F ⟨c,⟨a,b,z,l,rfl,s⟩|⟨l,u,rfl⟩⟩
 rotate_left
 .go_wp2;go_ret2;exact⟨c.alloc _,.inr ⟨by rw[q.out];simp only[l],u,rfl⟩⟩
 have⟨e1,l1⟩:=A.Bd l;have G:=c.size;go_wp2_with fail;apply(J k z _ (s.alloc _) e1 ((D.only c j).below (aT.al _)) j aA).mono;rintro e O ⟨g,⟨x,r,v,m,rfl,o,t⟩|⟨m,u,rfl⟩⟩
 rotate_left
 .go_wp2;go_ret2;exact⟨(c.alloc _).trans g,.inr ⟨by rw[q.out];simp only[l,m],u,rfl⟩⟩
 have E:=(c.alloc _).trans g;have C:=g.heap (aP F (.cells #[Iv a,Iv b] 140 (0,0)) _ rfl) aA;have N:=aD (i:=0) C rfl;have M:=aD (i:=1) C rfl;have y:Hid (res=some (mk op ByteArray.empty a b x .nil,r)):=by show _=_;rw[q.out];simp only[l,m]
 have H:=E.size;obtain⟨B,rfl⟩:∃B,v=Value.pointer B:=by
  cases x with
  |nil=>exact⟨_,o⟩
  |node _ _ _ _ _=>obtain⟨b,_,_,K,_⟩:=o;exact⟨_,K⟩
 go_wp2;go_ret2;refine⟨E.alloc _,.inl ⟨_,_,_,y.out,rfl,?_,t.alloc _⟩⟩;exact oU aA (aP _ _ _ rfl) (o.below (aT.al _)) rfl
theorem Qx(a:Int):((a=8743\/a=8744\/a=83)/\((a !=8743)=false\/((a !=8743)=true/\(a !=8744)=false)\/((a !=8743)=true/\(a !=8744)=true/\(a !=83)=false)))
  \/(¬(a=8743\/a=8744\/a=83)/\(a !=8743)=true/\(a !=8744)=true/\(a !=83)=true):=by
 by_cases d:a=8743
 .subst d;exact .inl ⟨.inl rfl,.inl rfl⟩
 .by_cases b:a=8744
  .subst b;exact .inl ⟨.inr (.inl rfl),.inr (.inl ⟨rfl,rfl⟩)⟩
  .by_cases c:a=83
   .subst c;exact .inl ⟨.inr (.inr rfl),.inr (.inr ⟨rfl,rfl,rfl⟩)⟩
   .exact .inr ⟨by simp[d,b,c],by simp[d],by simp[b],by simp[c]⟩
theorem TQ(n:Nat)(f:aB Tok->aQ (BT c_×aB Tok))(ih:Dh n f)(X:xc f)(l:Nat)(r:aB Tok)(w:aC)(h:ky 208 l w r)(Z:Ends r)(hg:ju w)(d:14<=l)(hn:r.length<=n):
  Calls prog 156 #[Pt l] w (Ic l w (qH f r)):=by
 have Y:Hid (qH f r=match f r with
  |none=>none
  |some (p,c)=>
   if(bL c).1.sign=8743\/(bL c).1.sign=8744\/(bL c).1.sign=83 then
    match dZ (bL c).1.sign (bL c).2 with
    |none=>none
    |some ((a,b),G)=>match f G with
     |none=>none
     |some (q,A)=>match cT 41 A with
      |none=>none
      |some z=>some (mk (bL c).1.sign ByteArray.empty a b p q,z)
   else none):=rfl
 generalize qH f r=res at*;have a1:=h.lt;go_enter func156,ntmps156;go_wp2_with fail;apply(ih l r w h Z hg d hn).mono;rintro e w1 ⟨k,⟨x,c,v,I,rfl,D,N⟩|⟨I,B,rfl⟩⟩
 rotate_left
 .go_wp2_with fail;go_ret2;exact⟨k,.inr ⟨by rw[Y.out];simp only[I],B,rfl⟩⟩
 have⟨e1,l1⟩:=X _ _ _ Z I;have g1:=hg.only k d;have z1:=k.size;obtain⟨vx,rfl⟩:=gU D;go_wp2_with fail;refine(sj l c _ N e1).m λw2 ⟨t,S⟩=>?_;have⟨e2,l2,_⟩:=e1.take;have H:Hid (res=if(bL c).1.sign=8743\/(bL c).1.sign=8744\/(bL c).1.sign=83 then
    match dZ (bL c).1.sign (bL c).2 with
    |none=>none
    |some ((a,b),G)=>match f G with
     |none=>none
     |some (q,A)=>match cT 41 A with
      |none=>none
      |some z=>some (mk (bL c).1.sign ByteArray.empty a b x q,z)
   else none):=by show _=_;rw[Y.out];simp only[I]
 have J:=k.trans t;have g2:=g1.only t d;generalize(bL c).2=u1 at*;generalize(bL c).1.sign=s at*;generalize(bL c).1.place=K at*;generalize(bL c).1.word=V at*;have z2:=J.size;obtain⟨u,hq⟩|⟨u,R,q2,q3⟩:=Qx s
 rotate_left
 .have g:Hid (res=none):=by show _=_;rw[H.out,bN u]
  go_wp2
  go_region
  all_goals go_wp2
  all_goals go_ret2
  all_goals exact⟨by repeat(first|exact J|refine Only.drew ?_|refine Only.alloc ?_ _),.inr ⟨g.out,_,rfl⟩⟩
 have g:Hid (res=match dZ s u1 with
    |none=>none
    |some ((a,b),G)=>match f G with
     |none=>none
     |some (q,A)=>match cT 41 A with
      |none=>none
      |some z=>some (mk s ByteArray.empty a b x q,z)):=by show _=_;rw[H.out,bY u]
 have k2:=aP w2 (.cells #[.int .i32 s,Iv K,.string V] 260 (0,0)) _ rfl;have g2':ju (w2.alloc (.cells #[.int .i32 s,Iv K,.string V] 260 (0,0))):=g2.below (aT.al _);obtain R|⟨R,q2⟩|⟨R,q2,q3⟩:=hq
 all_goals
  go_wp2_with fail;apply(EY l u1 s _ (S.alloc _) e2 g2' d).mono;rintro e w3 ⟨m,⟨a,b,A,C,rfl,T⟩|⟨C,B,rfl⟩⟩
  rotate_left
  .go_wp2;go_ret2;exact⟨((J.alloc _).trans m).alloc _,.inr ⟨by rw[g.out];simp only[C],B,rfl⟩⟩
  have⟨e3,l3⟩:=e2.Bd C;have Q:=(J.alloc _).trans m;have z3:=Q.size;go_wp2_with fail;apply(ih l A _ (T.alloc _) e3 ((g2'.only m d).below (aT.al _)) d aA).mono;rintro e w4 ⟨o,⟨y,z,vy,F,rfl,E,L⟩|⟨F,B,rfl⟩⟩
  rotate_left
  .go_wp2;go_ret2;exact⟨(Q.alloc _).trans o,.inr ⟨by rw[g.out];simp only[C,F],B,rfl⟩⟩
  have⟨e4,l4⟩:=X _ _ _ e3 F;have M:=(Q.alloc _).trans o;have z4:=M.size;obtain⟨vy,rfl⟩:=gU E;go_wp2_with fail;apply(pN l z 41 _ _ L e4).mono;rintro e w5 ⟨j,⟨t5,P,rfl,U⟩|⟨P,B,rfl⟩⟩
  rotate_left
  .go_wp2;go_ret2;exact⟨M.trans j,.inr ⟨by rw[g.out];simp only[C,F,P],B,rfl⟩⟩
  have W:=M.trans j;have k5:=j.heap (o.heap (aP w3 (.cells #[Iv a,Iv b] 140 (0,0)) _ rfl) aA) aA;have z5:=W.size;have c0:=aD (i:=0) k5 rfl;have c1:=aD (i:=1) k5 rfl;have O:Hid (res=some (mk s ByteArray.empty a b x y,t5)):=by show _=_;rw[g.out];simp only[C,F,P]
  go_wp2;go_ret2;refine⟨W.alloc _,.inl ⟨_,_,_,O.out,rfl,?_,U.alloc _⟩⟩;exact oU aA (aP _ _ _ rfl) (((((((D.only t aA).below (aT.al (.cells #[.int .i32 s,Iv K,.string V] 260 (0,0)))).only m aA).below (aT.al (.cells #[Iv a,Iv b] 140 (0,0)))).only o aA).only j aA).below (aT.al _)) ((E.only j aA).below (aT.al _))
theorem Kj(a:Int):(a=97/\(a==97)=true)\/(a=40/\(a==97)=false/\(a==40)=true)
  \/((¬a=97/\¬a=40/\(a=172\/a=89\/a=79\/a=72))/\(a==97)=false/\(a==40)=false/\((a==172)=true\/((a==172)=false/\(a==89)=true)\/((a==172)=false/\(a==89)=false/\(a==79)=true)\/((a==172)=false/\(a==89)=false/\(a==79)=false/\(a==72)=true)))
  \/((¬a=97/\¬a=40/\¬(a=172\/a=89\/a=79\/a=72))/\(a==97)=false/\(a==40)=false/\(a==172)=false/\(a==89)=false/\(a==79)=false/\(a==72)=false):=by
 by_cases c:a=97
 .exact .inl ⟨c,by simp[c]⟩
 by_cases b:a=40
 .exact .inr (.inl ⟨b,by simp[b],by simp[b]⟩)
 by_cases d:a=172
 .exact .inr (.inr (.inl ⟨⟨c,b,.inl d⟩,by simp[c],by simp[b],.inl (by simp[d])⟩))
 by_cases e:a=89
 .exact .inr (.inr (.inl ⟨⟨c,b,.inr (.inl e)⟩,by simp[c],by simp[b],.inr (.inl ⟨by simp[d],by simp[e]⟩)⟩))
 by_cases f:a=79
 .exact .inr (.inr (.inl ⟨⟨c,b,.inr (.inr (.inl f))⟩,by simp[c],by simp[b],.inr (.inr (.inl ⟨by simp[d],by simp[e],by simp[f]⟩))⟩))
 by_cases g:a=72
 .exact .inr (.inr (.inl ⟨⟨c,b,.inr (.inr (.inr g))⟩,by simp[c],by simp[b],.inr (.inr (.inr ⟨by simp[d],by simp[e],by simp[f],by simp[g]⟩))⟩))
 .exact .inr (.inr (.inr ⟨⟨c,b,by simp[d,e,f,g]⟩,by simp[c],by simp[b],by simp[d],by simp[e],by simp[f],by simp[g]⟩))
theorem UM(t w)(i:t.word.size<=300):
  Calls prog 155 #[.agg #[.int .i32 t.sign,Iv t.place,.string t.word]] w λe c=>Bl w c/\((∃x v,lu t=some x/\e=.returned (.tuple #[v,.nilIface])/\bG 143 w.heap.size c x v)\/(lu t=none/\∃f,e=.returned (.tuple #[.pointer none,.iface 201 (.pointer (some f))]))):=by
 by_cases a:t.word=ET
 .rw[a];apply(Rx t.sign t.place w).mono;rintro e c ⟨v,rfl,d,b⟩;exact⟨b,.inl ⟨_,v,by unfold lu;rw[bY a],rfl,d⟩⟩
 .let ht':(t.word.toList==[116,114,117,101])=false:=by
   rw[ri,Lib.toList_data];intro h;exact a (mg h)
  by_cases g:8<t.word.size
  .refine(Rv t.sign t.place t.word w ht' g eP).mono ?_;rintro e c ⟨f,rfl,b⟩;exact⟨b,.inr ⟨by unfold lu;rw[bN a,bY g],f,rfl⟩⟩
  .refine(Rw t.sign t.place t.word w ht' aA).mono ?_;rintro e c ⟨v,rfl,d,b⟩;exact⟨b,.inl ⟨_,v,by unfold lu;rw[bN a,bN g],rfl,d⟩⟩
theorem F2(n f)(H:Dh n f)(N:xc f):Dh (n+1) (oK f):=by
 intro s g w h B F o S;have q:Hid (oK f g=if(bL g).1.sign=97 then(lu (bL g).1).map λx=>(x,(bL g).2)
  else if(bL g).1.sign=40 then qH f (bL g).2
  else if(bL g).1.sign=172\/(bL g).1.sign=89\/(bL g).1.sign=79\/(bL g).1.sign=72 then kp f (bL g).1.sign (bL g).2
  else none):=rfl
 generalize oK f g=res at*;have Q:=h.lt;have m:=sj s g w h B;have⟨e1,l1,Z_⟩:=B.take;have C:=B.word;generalize(bL g).1=t at*;generalize(bL g).2=u at*;rcases Kj t.sign with⟨j,D⟩|⟨j,D,K⟩|⟨j,D,K,P⟩|⟨j,D,K,y,A,L,O⟩
 .have c:Hid (res=(lu t).map λx=>(x,u)):=by show _=_;rw[q.out,bY j]
  clear j q Z_;go_enter func114,ntmps114;go_wp2_with fail;refine m.m λz ⟨a,i⟩=>?_;have I:=a.size;go_wp2_with fail;apply(UM t _ C).mono;rintro e M ⟨E,⟨x,v,l,rfl,d⟩|⟨l,J,rfl⟩⟩
  .have b:Hid (res=some (x,u)):=by show _=_;rw[c.out,l];rfl
   obtain⟨G,rfl⟩:=gU d;go_wp2;go_ret2;exact⟨(a.alloc _).tb E,.inl ⟨_,_,_,b.out,rfl,d.low (B':=s+1) bI,(i.alloc _).below E⟩⟩
  .have b:Hid (res=none):=by show _=_;rw[c.out,l];rfl
   go_wp2;go_ret2;exact⟨(a.alloc _).tb E,.inr ⟨b.out,_,rfl⟩⟩
 .have c:Hid (res=qH f u):=by show _=_;rw[q.out,bN aA,bY j]
  have R:=Z_ aA;have xf:=hid j;go_enter func114,ntmps114;go_wp2_with fail;refine m.m λz ⟨a,i⟩=>?_;have I:=a.size;go_wp2_with fail;apply(TQ n f H N s u _ (i.alloc _) e1 ((F.only a o).below (aT.al _)) o aA).mono;rintro e M ⟨k,⟨x,r,v,l,rfl,d,p⟩|⟨l,J,rfl⟩⟩
  .have b:Hid (res=some (x,r)):=by show _=_;rw[c.out,l]
   obtain⟨G,rfl⟩:=gU d;go_wp2;go_ret2;exact⟨(a.alloc _).trans k,.inl ⟨_,_,_,b.out,rfl,d,p⟩⟩
  .have b:Hid (res=none):=by show _=_;rw[c.out,l]
   go_wp2;go_ret2;exact⟨(a.alloc _).trans k,.inr ⟨b.out,_,rfl⟩⟩
 .have c:Hid (res=kp f t.sign u):=by show _=_;rw[q.out,bN j.1,bN j.2.1,bY j.2.2]
  have R:=Z_ aA;obtain y|⟨y,A⟩|⟨y,A,L⟩|⟨y,A,L,O⟩:=P
  all_goals
   go_enter func114,ntmps114;go_wp2_with fail;refine m.m λz ⟨a,i⟩=>?_;have I:=a.size;go_wp2_with fail;apply(Od n f H s u t.sign _ (i.alloc _) e1 ((F.only a o).below (aT.al _)) o aA).mono;rintro e M ⟨k,⟨x,r,v,l,rfl,d,p⟩|⟨l,J,rfl⟩⟩
   .have b:Hid (res=some (x,r)):=by show _=_;rw[c.out,l]
    obtain⟨G,rfl⟩:=gU d;go_wp2;go_ret2;exact⟨(a.alloc _).trans k,.inl ⟨_,_,_,b.out,rfl,d,p⟩⟩
   .have b:Hid (res=none):=by show _=_;rw[c.out,l]
    go_wp2;go_ret2;exact⟨(a.alloc _).trans k,.inr ⟨b.out,_,rfl⟩⟩
 .have c:Hid (res=none):=by show _=_;rw[q.out,bN j.1,bN j.2.1,bN j.2.2]
  go_enter func114,ntmps114;go_wp2_with fail;refine m.m λz ⟨a,i⟩=>?_;go_wp2
  go_region
  all_goals go_wp2
  all_goals go_ret2
  all_goals exact⟨by repeat(first|exact a|refine Only.drew ?_|refine Only.alloc ?_ _),.inr ⟨c.out,_,rfl⟩⟩
theorem zK:∀n,Dh n (lS n)
 |0=>λc d w h a _ _ b=>by
  obtain⟨t,r,rfl⟩:=a.cons
  simp at b
 |n+1=>F2 n (lS n) (zK n) (qD n)
theorem P6(v w):(Extern.ReflectliteType.typeOf #[.iface 357 v]).run prog w=.ok (.iface 266 (.agg #[.pointer (some (Ad (14) (357)))])) w:=aM
def YL:aY aF->Sem aF:=Extern.ReflectliteType.method λt=>do Extern.Rtype.noPackHeld "Comparable" t;pure (.bool (<-typeInfo t).comparable)
theorem Kc(w):(YL #[.agg #[.pointer (some (Ad (14) (357)))]]).run prog w=.ok (.bool true) w:=aM
theorem WI:(prog.info? 357).map (·.comparable)=some true:=aM
theorem WL:(prog.info? 359).map (·.size)=some 1:=aM
theorem yE(v w):(Go.method 486 266 v "Comparable").run prog w=.ok (267,v) w:=aM
end Go.Proofs.YtpbbmagjhkakgaaGreatDoor
