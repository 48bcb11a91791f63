import Derived.Test.YtpbbmagjhkakgaaGreatDoorE7
namespace Go.Proofs.YtpbbmagjhkakgaaGreatDoor
set_option maxHeartbeats 4000000
set_option maxRecDepth 100000
namespace Ev
open Go.Proofs.Tryz Go.RowKit Go.Deep Go.Maps Lf Go.Conc
section
variable{w w1:aC}{mb:Nat}{last:Int}{o:aR bC}{c:Nat}{A:Act}
theorem HM.S1{W:aC}(h:HM w mb l8 W)(m:dP w)(i:cZ w)(n:14<=w.heap.size):
  Calls prog 31 #[.pointer (some ⟨mb,0,none⟩),.string ⟨#[112]⟩,.string ⟨#[89,91,48,44,57,93,97]⟩] W λe d=>∃g c,e=.returned (.tuple #[.slice (some ⟨g,0,none⟩) 3 c,.int .i64 0])/\d.cell? ⟨g,4,none⟩=some (.int .i64 2)/\d.cell? ⟨g,5,none⟩=some (.int .i64 3)/\d.cell? ⟨g,6,none⟩=some (.int .i64 2)/\d.cell? ⟨g,7,none⟩=some (.bool true)/\HM w mb Jd d:=by
 let⟨⟨l,hM⟩,hs⟩:=h;let p:=hs.size;apply(EP hM ZB.2.2 aG (Ba m n hs) (yd i hs) aA oR K4 aG aG).mono;rintro e d ⟨v,rfl,f,j,k⟩;let a:=El;rw[oO,oO]at a;let⟨e1,e2⟩:=Vo a.1;rw[a.2.1];rw[e1,e2]at f;obtain⟨g,c,rfl,_⟩:=fS f aG;exact⟨g,c,rfl,d_ f rfl rfl,d_ f rfl rfl,d_ f rfl rfl,d_ f rfl rfl,j.mono λb o=>o.elim id λh=>aA,hs.trans k⟩
theorem HM.work{W:aC}(h:HM w mb Jd W):Calls prog 30 #[.pointer (some ⟨mb,0,none⟩)] W λe b=>e=.returned (.int .i64 2)/\b=W:=by
 let⟨⟨l,hM⟩,hs⟩:=h;let a:=El;rw[oO,oO]at a;have:=HI hM (Dz ZB.2.2 oR K4)
 rwa[a.2.2]at this
theorem UA(C:12<=last)(p:Fx 159 ((15,.int .i64 0)::(14,.int .i64 0)::(13,.int .i64 0)::ID last mb o c) A)(h:HM w mb l8 w1)(l:dP w)(b:cZ w)(k:14<=w.heap.size)(i:Tape)(d:Nat):Bj.wp prog (bodyPost prog f34 (rH w)) A (re w1 i d):=by
 have j:=(h.re i d).stream l b k;have x:decide (last<12)=false:=j_ aA;have v:=hid λW (h:HM w mb l8 W)=>HM.S1 h l b k;have r:Hid (∀W,HM w mb Jd W->Calls prog 30 #[.pointer (some ⟨mb,0,none⟩)] W λe q=>e=.returned (.int .i64 2)/\q=W):=λW h=>HM.work h;obtain⟨u,a,rfl⟩:=PK p;simp only[a 0 _ rfl,a 9 _ rfl,a 11 _ rfl,a 12 _ rfl,a 13 _ rfl,a 14 _ rfl,a 15 _ rfl];generalize re w1 i d=W at*;simp only[Bj,Bv,DQ,f34,fD];go_wp2_with fail;apply j.mono;rintro e m ⟨g,c,rfl,H,E,t,f⟩;go_wp2_with fail;apply(v.out m f).mono;rintro e s ⟨B,c2,rfl,D,z,F,y,f⟩;go_wp2_with fail;refine(r.out s f).m λG n=>?_;obtain rfl:=n.symm;go_wp2;go_ret;exact⟨rfl,f.2⟩
theorem Px(h:12<=last)(b:dP w)(a:cZ w)(c:14<=w.heap.size):cI prog 34 #[.int .i64 last] w (rH w):=
 K7 aA b a c λf e g d=>UA h f e b a c g d
end
end Ev
end Go.Proofs.YtpbbmagjhkakgaaGreatDoor
