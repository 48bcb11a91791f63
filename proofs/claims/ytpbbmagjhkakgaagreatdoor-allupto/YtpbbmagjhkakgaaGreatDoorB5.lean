import Derived.Test.YtpbbmagjhkakgaaGreatDoorB2
import Derived.Test.YtpbbmagjhkakgaaGreatDoorB3
import Derived.Deep.LoopGhost
namespace Go.Proofs.YtpbbmagjhkakgaaGreatDoor
set_option maxHeartbeats 4000000
set_option maxRecDepth 100000
open Tryz Go.RowKit Go.Extern.Stop Go.Stop Go.Extern
structure WC(T:TypeId):Prop where
 X0:∀v xT w,(Instr.typeAssert (.iface T v) xT 268 true).run prog w=.ok (.tuple #[.nilIface,.bool false]) w
 XZ:∀v xT w,(Instr.typeAssert (.iface T v) xT 312 true).run prog w=.ok (.tuple #[.nilIface,.bool false]) w
 Zu:∀v xT w,(Instr.typeAssert (.iface T v) xT 270 true).run prog w=.ok (.tuple #[.nilIface,.bool false]) w
 W_:∀v xT w,(Instr.typeAssert (.iface T v) xT 272 true).run prog w=.ok (.tuple #[.nilIface,.bool false]) w
structure OC(T:TypeId)(f:FuncId):Prop where
 X0:∀v xT w,(Instr.typeAssert (.iface T v) xT 268 true).run prog w=.ok (.tuple #[.nilIface,.bool false]) w
 XZ:∀v xT w,(Instr.typeAssert (.iface T v) xT 312 true).run prog w=.ok (.tuple #[.nilIface,.bool false]) w
 has:∀v xT w,(Instr.typeAssert (.iface T v) xT 270 true).run prog w=.ok (.tuple #[.iface T v,.bool true]) w
 Zq:∀v w,(Go.method 486 T v "Unwrap").run prog w=.ok (f,v) w
 ent:∀args w,(callFunc f args).run prog w=.ok (.enter f args) w
 ne:T≠357
inductive pD(ok:TypeId->Prop)(w:aC):Nat->aF->TypeId->a_->Prop
 |leaf {T:TypeId} {a:a_}:WC T->pD ok w 0 (.iface T (.pointer (some a))) T a
 |wrap {T:TypeId} {f:FuncId} {b:a_} {n:Nat} {v:aF} {L:TypeId} {a:a_}:ok T->OC T f->(∀W,Bl w W->Calls prog f #[.pointer (some b)] W λe w'=>e=.returned v/\w'=W)->pD ok w n v L a->pD ok w (n+1) (.iface T (.pointer (some b))) L a
theorem pD.iface{ok w n v L a}(h:pD ok w n v L a):∃T p,v=.iface T p:=by
 cases h<;>exact⟨_,_,rfl⟩
theorem Ti(ok w n v L a t r)(l:pD ok w n v L a)(i:(L=357/\(binOp .eql 89 (.iface 357 (.pointer (some a))) (.iface 357 (.pointer (some t)))).run prog w=.ok (.bool r) w)\/(L≠357/\r=false)):
  Calls prog 118 #[v,.iface 357 (.pointer (some t)),.bool true] w λe s=>e=.returned (.bool r)/\s=w:=by
 let c:=λ(T:TypeId)(p:aF)(d:T≠357)=>run_eql_iface_types (P:=prog) T 357 p (.pointer (some t)) underlying89 d w;replace c:Hid _:=c;replace i:Hid _:=i;let u:=hid l;obtain⟨B,F,rfl⟩:=l.iface;go_enter func118,ntmps118;go_wp2
 go_loopg [0] n (λx ev wr=>Hid (pD ok w x ev L a)/\wr=w)
 case atStart=>exact⟨u,rfl⟩
 case round=>
  let⟨hC,hw0⟩:=hrel;obtain rfl:=hw0.symm;let hC:=hC.out;cases hC with
  |leaf h=>
   let q:=h.X0;let o:=h.Zu;let m:=h.W_;obtain⟨rfl,k⟩|⟨d,rfl⟩:=i.out
   .cases r with
    |true=>
     go_wp2;go_ret;exact⟨rfl,rfl⟩
    |false=>
     go_wp2;go_ret;exact⟨rfl,rfl⟩
   .let k:=c.out L (.pointer (some a)) d;go_wp2;go_ret;exact⟨rfl,rfl⟩
  |@wrap T f b y A _ _ _ hw j g=>
   let q:=hw.X0;let C:=hw.has;let o:=hw.Zq;let m:=hw.ent;let k:=c.out T (.pointer (some b)) hw.ne;let Hc':=hid g;obtain⟨E,D,rfl⟩:=g.iface;go_wp2_with (go_at_fn f;refine(j _ aT).mono ?_;rintro e z ⟨rfl,rfl⟩)
   go_roundg y
   case measure=>omega
   case rel=>exact⟨Hc',rfl⟩
theorem vq(ok w n v L a t r)(b:pD ok w n v L a)(c:(L=357/\(binOp .eql 89 (.iface 357 (.pointer (some a))) (.iface 357 (.pointer (some t)))).run prog w=.ok (.bool r) w)\/(L≠357/\r=false)):
  Calls prog 75 #[v,.iface 357 (.pointer (some t))] w λe d=>e=.returned (.bool r)/\d=w:=by
 have x1:=@qm prog 117 _ Extern.ReflectliteType.typeOf func117 aM aM aM aM;have x2:=@qm prog 267 _ YL func267 aM aM aM aM;have g:=P6;have i:=Kc;have f:=yE;have hi:=Ti ok w n v L a t r b c;obtain⟨h,j,rfl⟩:=b.iface;clear c b;go_enter func75,ntmps75;go_wp2_with fail;apply hi.m0;go_wp2_with fail;go_ret;exact⟨rfl,rfl⟩
structure Mj(T X:TypeId):Prop where
 typeOf:∀v w,(ReflectliteType.typeOf #[.iface X v]).run prog w=.ok (.iface 266 (.agg #[.pointer (some (Ad (14) X))])) w
 assign:∀w,(ReflectliteType.relation "AssignableTo" ReflectliteType.assignableTo #[.agg #[.pointer (some (Ad (14) X))],.iface 266 (.agg #[.pointer (some (Ad (14) T))])]).run prog w=.ok (.bool false) w
structure R3(T PT:TypeId):Prop where
 valueOf:∀t w,(ReflectliteValue.unpack (.iface PT (.pointer (some t)))).run prog w=.ok (.agg #[.pointer (some (Ad (14) PT)),Pt w.heap.size,.int .u64 150]) (w.alloc (.cells #[.pointer (some t)] PT))
 type:∀a w,(ReflectliteValue.methodAny (ReflectliteValue.valueError "reflectlite.Value.Type" 0) (λt _ _ _=>ReflectliteType.toType t) #[.agg #[.pointer (some (Ad (14) PT)),.pointer (some a),.int .u64 150]]).run prog w=.ok (.iface 266 (.agg #[.pointer (some (Ad (14) PT))])) w
 W2:∀w,(Gs #[.pointer (some (Ad (14) PT))]).run prog w=.ok (.int .u8 22) w
 Gs:∀w,(Gs #[.pointer (some (Ad (14) T))]).run prog w=.ok (.int .u8 22) w
 isNil:∀a p W,W.cell? a=some (.pointer (some p))->(ReflectliteValue.method (ReflectliteValue.valueError "reflectlite.Value.IsNil" 0) ReflectliteValue.isNil #[.agg #[.pointer (some (Ad (14) PT)),.pointer (some a),.int .u64 150]]).run prog W=.ok (.bool false) W
 elem:∀w,(ReflectliteType.method ReflectliteType.elem #[.agg #[.pointer (some (Ad (14) PT))]]).run prog w=.ok (.iface 266 (.agg #[.pointer (some (Ad (14) T))])) w
 impl:∀w,(ReflectliteType.relation "Implements" ReflectliteType.implements_ #[.agg #[.pointer (some (Ad (14) T))],.iface 266 (.agg #[.pointer (some (Ad (14) (89)))])]).run prog w=.ok (.bool true) w
 typeOf:∀v w,(ReflectliteType.typeOf #[.iface T v]).run prog w=.ok (.iface 266 (.agg #[.pointer (some (Ad (14) T))])) w
 assign:∀w,(ReflectliteType.relation "AssignableTo" ReflectliteType.assignableTo #[.agg #[.pointer (some (Ad (14) T))],.iface 266 (.agg #[.pointer (some (Ad (14) T))])]).run prog w=.ok (.bool true) w
 LN:∀e w,(ReflectliteValue.unpack (.iface T (.pointer (some e)))).run prog w=.ok (.agg #[.pointer (some (Ad (14) T)),Pt w.heap.size,.int .u64 150]) (w.alloc (.cells #[.pointer (some e)] T))
 elemV:∀a p W,W.cell? a=some (.pointer (some p))->(ReflectliteValue.method (ReflectliteValue.valueError "reflectlite.Value.Elem" 0) ReflectliteValue.elem #[.agg #[.pointer (some (Ad (14) PT)),.pointer (some a),.int .u64 150]]).run prog W=.ok (.agg #[.pointer (some (Ad (14) T)),.pointer (some p),.int .u64 406]) W
 set:∀ta b e old W,W.cell? b=some (.pointer (some e))->W.cell? ta=some old->W.frozen? ta=false->(ReflectliteValue.set #[.agg #[.pointer (some (Ad (14) T)),.pointer (some ta),.int .u64 406],.agg #[.pointer (some (Ad (14) T)),.pointer (some b),.int .u64 150]]).run prog W=.ok (.tuple #[]) (W.setCell ta (.pointer (some e)))
theorem Sj(T d)(h:R3 T d)(w n v L a r k q)(y:pD (Mj T) w n v L a)(u:(L=T/\r=true)\/(Mj T L/\r=false))(t:w.heap[k]?=some (.cells #[.pointer none] T (0,0)))(z:w.cell? (Ad q 0)=some (Pt k)):
  Calls prog 161 #[v,.iface d (Pt k),.agg #[.pointer (some (Ad (14) d)),Pt q,.int .u64 150],.iface 266 (.agg #[.pointer (some (Ad (14) T))])] w λe G=>e=.returned (.bool r)/\Only k w G:=by
 let x1:=@qm prog 158 _ (λm=>ReflectliteValue.unpack (m.getD 0 (.tuple #[]))) func158 aM aM aM aM;let N:=@qm prog 117 _ ReflectliteType.typeOf func117 aM aM aM aM;let K:=@qm prog 266 _ (ReflectliteType.relation "AssignableTo" ReflectliteType.assignableTo) func266 aM aM aM aM;let x9:=@qm prog 187 _ (ReflectliteValue.method (ReflectliteValue.valueError "reflectlite.Value.Elem" 0) ReflectliteValue.elem) func187 aM aM aM aM;let E:=@qm prog 188 _ ReflectliteValue.set func188 aM aM aM aM;let S:=yw;let j:=aL t;let s:(w.alloc (.cells #[.pointer (some (Ad (14) d)),Pt q,.int .u64 150] 278)).cell? (Ad q 0)=some (Pt k):=by
  rw[sq _ _ (Ad q 0) (eS z)];exact z
 let Q:=h.elemV (Ad q 0) (Ad k 0) _ s;let st:=h.set (Ad k 0) (Ad (w.heap.size+1) 0) a (.pointer none) ((w.alloc (.cells #[.pointer (some (Ad (14) d)),Pt q,.int .u64 150] 278)).alloc (.cells #[.pointer (some a)] T))
  (by rw[E_ _ _ _ _ aE];rfl)
  (by rw[sq _ _ (Ad k 0) bI,sq _ _ (Ad k 0) j];exact aD (i:=0) t rfl)
  (by rw[World.frozen?_alloc_old _ _ (Ad k 0) bI,World.frozen?_alloc_old _ _ (Ad k 0) (Nat.ne_of_lt j)];exact cJ t 0)
 let Z:=h.typeOf;let O:=h.assign;let U:=h.LN;replace u:Hid _:=u;let H:=hid y;obtain⟨R,p0,rfl⟩:=y.iface;go_enter func161,ntmps161;go_wp2
 go_loopg [0] n (λI ev wr=>Hid (pD (Mj T) w I ev L a)/\wr=w.alloc (.cells #[.pointer (some (Ad (14) d)),Pt q,.int .u64 150] 278))
 case atStart=>exact⟨H,rfl⟩
 case round=>
  obtain⟨hC,rfl⟩:=hrel;let hC:=hC.out;cases hC with
  |leaf o=>
   let D:=o.XZ;let C:=o.Zu;let B:=o.W_;obtain⟨rfl,rfl⟩|⟨c,rfl⟩:=u.out
   .go_wp2;go_ret;exact⟨rfl,(((Only.refl k w).setCell (p:=(Ad k 0)) (.inl rfl) _).alloc _).alloc _⟩
   .let A:=c.typeOf;let F:=c.assign;go_wp2;go_ret;exact⟨rfl,(Only.refl _ _).alloc _⟩
  |@wrap X f b J P _ _ l hw x g=>
   let D:=hw.XZ;let V:=hw.has;let C:=hw.Zq;let B:=hw.ent;let A:=l.typeOf;let F:=l.assign;let Hc':=hid g;obtain⟨Y,W,rfl⟩:=g.iface;go_wp2_with (go_at_fn f;refine(x _ ((cC _ w).al _)).mono ?_;rintro e M ⟨rfl,rfl⟩)
   go_roundg J
   case measure=>omega
   case rel=>exact⟨Hc',rfl⟩
theorem pD.down{ok w W}(f:Bl w W){n v L a}(h:pD ok w n v L a):pD ok W n v L a:=by
 induction h with
 |leaf d=>exact .leaf d
 |wrap b hw e _ g=>exact .wrap b hw (λi c=>e i (f.tr c)) g
theorem JU(T b)(c:R3 T b)(w n v L a r k)(j:pD (Mj T) w n v L a)(m:(L=T/\r=true)\/(Mj T L/\r=false))(i:w.heap[k]?=some (.cells #[.pointer none] T (0,0)))(l:w.cell? (Ad (7) 0)=some (.iface 266 (.agg #[.pointer (some (Ad (14) (89)))]))):
  Calls prog 119 #[v,.iface b (Pt k)] w λe p=>e=.returned (.bool r)/\Only k w p:=by
 have x1:=@qm prog 158 _ (λg=>ReflectliteValue.unpack (g.getD 0 (.tuple #[]))) func158 aM aM aM aM;have x2:=@qm prog 159 _ (ReflectliteValue.methodAny (ReflectliteValue.valueError "reflectlite.Value.Type" 0) λt _ _ _=>ReflectliteType.toType t) func159 aM aM aM aM;have x3:=@qm prog 160 _ (ReflectliteValue.method (ReflectliteValue.valueError "reflectlite.Value.IsNil" 0) ReflectliteValue.isNil) func160 aM aM aM aM;have G:=@qm prog 248 _ Gs func248 aM aM aM aM;have J:=@qm prog 268 _ (ReflectliteType.method ReflectliteType.elem) func268 aM aM aM aM;have H:=@qm prog 269 _ (ReflectliteType.relation "Implements" ReflectliteType.implements_) func269 aM aM aM aM;have x:=JQ;have A:=JP;have C:=yx;have M:=c.valueOf;have B:=c.type;have I:=c.W2;have D:=c.Gs;have z:=c.elem;have E:=c.impl;have s:=aL i;have h:7<w.heap.size:=eS l;have f:Bl w ((w.alloc (.cells #[Pt k] b)).alloc (.cells #[.pointer (some (Ad (14) b)),Pt w.heap.size,.int .u64 150] 278)):=((cC _ w).al _).al _;have d:((w.alloc (.cells #[Pt k] b)).alloc (.cells #[.pointer (some (Ad (14) b)),Pt w.heap.size,.int .u64 150] 278)).cell? (Ad w.heap.size 0)=some (Pt k):=by
  rw[sq _ _ (Ad w.heap.size 0) aE];simp
 have K:=c.isNil (Ad w.heap.size 0) (Ad k 0) _ d;have o:((w.alloc (.cells #[Pt k] b)).alloc (.cells #[.pointer (some (Ad (14) b)),Pt w.heap.size,.int .u64 150] 278)).cell? (Ad (7) 0)=some (.iface 266 (.agg #[.pointer (some (Ad (14) (89)))])):=by
  rw[sq _ _ (Ad (7) 0) bI,sq _ _ (Ad (7) 0) h];exact l
 have u:=Sj T b c _ n v L a r k w.heap.size (j.down f) m (f.aS i) d;obtain⟨F,N,rfl⟩:=j.iface;clear j m i l c f d;go_enter func119,ntmps119;go_wp2_with fail;refine u.m λy q=>?_;go_wp2_with fail;go_ret;exact⟨rfl,(((Only.refl k w).alloc _).alloc _).trans q⟩
def leaves:aB TypeId:=[357,130,131,132,133,134,287]
def zW:aB TypeId:=[169,154,125,201,290]
def targs:aB (TypeId×TypeId):=[(130,218),(131,219),(132,220),(133,221),(134,222)]
theorem W8{T}(h:T∈leaves):WC T:=by
 simp only[leaves,gp,iW,oF]at h;obtain rfl|rfl|rfl|rfl|rfl|rfl|rfl:=h<;>exact⟨λv a w=>run_typeAssert_lacksB underlying268 aM aM v a w,λv a w=>run_typeAssert_lacksB underlying312 aM aM v a w,λv a w=>run_typeAssert_lacksB underlying270 aM aM v a w,λv a w=>run_typeAssert_lacksB underlying272 aM aM v a w⟩
theorem Xf{T f}(h:(T,f)∈[(169,262),(154,260),(125,252),(201,264),(290,281)]):OC T f:=by
 simp only[gp,oC,iW,oF]at h;obtain⟨rfl,rfl⟩|⟨rfl,rfl⟩|⟨rfl,rfl⟩|⟨rfl,rfl⟩|⟨rfl,rfl⟩:=h<;>exact⟨λv a w=>run_typeAssert_lacksB underlying268 aM aM v a w,λv a w=>run_typeAssert_lacksB underlying312 aM aM v a w,λv a w=>run_typeAssert_hasB underlying270 aM v a w,λv w=>aM,λb w=>by go_simp,aG⟩
theorem X2{T PT X}(h:(T,PT)∈targs)(b:X∈leaves++zW)(a:T≠X):Mj T X:=by
 simp only[targs,leaves,zW,mz,jW,gp,oC,iW,oF]at h b;rcases h with⟨rfl,rfl⟩|⟨rfl,rfl⟩|⟨rfl,rfl⟩|⟨rfl,rfl⟩|⟨rfl,rfl⟩<;>rcases b with rfl|rfl|rfl|rfl|rfl|rfl|rfl|rfl|rfl|rfl|rfl|rfl<;>first|exact absurd rfl a|exact⟨λv w=>aM,λw=>aM⟩
section
variable{T PT:TypeId}
theorem aaG(h:(T,PT)∈targs)(a W):(ReflectliteValue.method (ReflectliteValue.valueError "reflectlite.Value.IsNil" 0) ReflectliteValue.isNil #[.agg #[.pointer (some (Ad (14) PT)),.pointer (some a),.int .u64 150]]).run prog W=(ReflectliteValue.isNil PT a 150 22).run prog W/\(ReflectliteValue.method (ReflectliteValue.valueError "reflectlite.Value.Elem" 0) ReflectliteValue.elem #[.agg #[.pointer (some (Ad (14) PT)),.pointer (some a),.int .u64 150]]).run prog W=(ReflectliteValue.elem PT a 150 22).run prog W:=by
 simp only[targs,gp,oC,iW,oF]at h;obtain⟨rfl,rfl⟩|⟨rfl,rfl⟩|⟨rfl,rfl⟩|⟨rfl,rfl⟩|⟨rfl,rfl⟩:=h<;>exact⟨aM,aM⟩
theorem elT(h:(T,PT)∈targs)(p w):(Rtype.elem? PT).run prog w=.ok (some T) w/\(ReflectliteValue.mk T p ReflectliteValue.flagAddr).run prog w=.ok (.agg #[.pointer (some (Ad (14) T)),.pointer (some p),.int .u64 406]) w:=by
 simp only[targs,gp,oC,iW,oF]at h;obtain⟨rfl,rfl⟩|⟨rfl,rfl⟩|⟨rfl,rfl⟩|⟨rfl,rfl⟩|⟨rfl,rfl⟩:=h<;>exact⟨aM,aM⟩
theorem aaK(h:(T,PT)∈targs)(a b W):(ReflectliteValue.set #[.agg #[.pointer (some (Ad (14) T)),.pointer (some a),.int .u64 406],.agg #[.pointer (some (Ad (14) T)),.pointer (some b),.int .u64 150]]).run prog W=(do let v<-loadVar T b;storeVar T a v;pure (Value.tuple #[])).run prog W:=by
 simp only[targs,gp,oC,iW,oF]at h;obtain⟨rfl,rfl⟩|⟨rfl,rfl⟩|⟨rfl,rfl⟩|⟨rfl,rfl⟩|⟨rfl,rfl⟩:=h<;>kernel_rfl
theorem ZD(h:(T,PT)∈targs):R3 T PT:=by
 let d:=aaG h;let c:=elT h;let j:=aaK h;simp only[targs,gp,oC,iW,oF]at h;rcases h with⟨rfl,rfl⟩|⟨rfl,rfl⟩|⟨rfl,rfl⟩|⟨rfl,rfl⟩|⟨rfl,rfl⟩<;>exact{
  valueOf:=λt w=>aM
  type:=λa w=>aM
  W2:=λw=>aM
  Gs:=λw=>aM
  isNil:=λa p W ha=>by
   rw[(d a W).1];simp[ReflectliteValue.isNil,loadVar,isAgg,underlying,underlying218,underlying219,underlying220,underlying221,underlying222,ha,Result.andThen]
  elem:=λw=>aM
  impl:=λw=>aM
  typeOf:=λv w=>aM
  assign:=λw=>aM
  LN:=λe w=>aM
  elemV:=λa p W ha=>by
   rw[(d a W).2];simp[ReflectliteValue.elem,loadVar,isAgg,underlying,underlying218,underlying219,underlying220,underlying221,underlying222,ha,Result.andThen,(c p W).1,(c p W).2]
  set:=λg b e old W hb f i=>by
   rw[j];simp[loadVar,isAgg,underlying,underlying130,underlying131,underlying132,underlying133,underlying134,hb,Result.andThen,storeVar,Value.cells,storeCells,Addr.add];rw[run_store prog W g _ _ (by rfl)];simp[f,i]}
end
structure ik(w:aC)(g:Nat)(text:aB aV)(a:a_):Prop where
 cell:w.cell? (Ad g 0)=some (.iface 357 (.pointer (some a)))
 str:∃s:aZ,w.cell? a=some (.string s)/\s.data.toList=text
 heap:∃c t,w.heap[a.block]?=some (.cells c t (0,0))
theorem ik.keep{w W g b a}(h:ik w g b a)(d:∀k,k<w.heap.size->W.heap[k]?=w.heap[k]?):ik W g b a:=by
 let⟨h1,⟨s,h2,h3⟩,c,t,h4⟩:=h;exact⟨by rw[fT (w:=w) (a:=(Ad g 0)) (d g (eS h1))];exact h1,⟨s,by rw[fT (w:=w) (a:=a) (d a.block (aL h4))];exact h2,h3⟩,c,t,by rw[d a.block (aL h4)];exact h4⟩
theorem ik.down{w W g b a}(h:ik w g b a)(c:Bl w W):ik W g b a:=h.keep c.block
theorem ik.ne{w h g d c e b}(i:ik w h d e)(f:ik w g c b)(a:d≠c):e≠b:=by
 rintro rfl;let⟨s1,c1,e1⟩:=i.str;let⟨s2,c2,e2⟩:=f.str;rw[c1]at c2;cases c2;exact a (e1.symm.trans e2)
def Ju(w:aC)(v:aF)(L:TypeId)(a:a_):Prop:=∃n,∀ok:TypeId->Prop,(∀X∈zW,ok X)->pD ok w n v L a
theorem Ju.down{w W}(c:Bl w W){v L a}(h:Ju w v L a):Ju W v L a:=by
 let⟨n,h⟩:=h;exact⟨n,λok b=>(h ok b).down c⟩
theorem aaE{w:aC}{v:aF}{c b:a_}{l k:Nat}{g f:aB aV}(m:Ju w v 357 c)(h:ik w l g c)(d:ik w k f b)(a:g≠f):
  Calls prog 75 #[v,.iface 357 (.pointer (some b))] w λe o=>e=.returned (.bool false)/\o=w:=by
 let⟨n,hc⟩:=m;let⟨i,hi,XK⟩:=na.1 WI;let⟨j,hj,Z4⟩:=na.1 WL;let⟨c1,x1,e1⟩:=h.heap;let⟨c2,x2,e2⟩:=d.heap;exact vq (λ_=>True) w n v _ c b false (hc _ λ_ _=>trivial) (.inl ⟨rfl,run_eql_iface_ptr_other w underlying89 underlying357 hi XK hj (by rw[Z4];decide) (h.ne d a) e1 e2⟩)
theorem Zi{w:aC}{v:aF}{a:a_}(b:Ju w v 357 a):
  Calls prog 75 #[v,.iface 357 (.pointer (some a))] w λe c=>e=.returned (.bool true)/\c=w:=by
 let⟨n,hc⟩:=b;let⟨i,hi,XK⟩:=na.1 WI;let⟨j,hj,Z4⟩:=na.1 WL;exact vq (λ_=>True) w n v _ a a true (hc _ λ_ _=>trivial) (.inl ⟨rfl,run_eql_iface_ptr_same (P:=prog) w a underlying89 underlying357 hi XK hj⟩)
theorem Zh{w v L b a}(c:Ju w v L b)(hL:L≠357):
  Calls prog 75 #[v,.iface 357 (.pointer (some a))] w λe d=>e=.returned (.bool false)/\d=w:=by
 let⟨n,hc⟩:=c;exact vq (λ_=>True) w n v L b a false (hc _ λ_ _=>trivial) (.inr ⟨hL,rfl⟩)
theorem Ju.iface{w v L a}(h:Ju w v L a):∃T p,v=.iface T p:=by
 let⟨n,hc⟩:=h;exact(hc (λ_=>True) λ_ _=>trivial).iface
def tNs:aB aV:=[110,111,32,115,101,110,116,101,110,99,101]
def Pl:aB aV:=[97,32,116,105,109,101,32,116,104,97,116,32,109,97,121,32,110,111,116,32,98,101]
def Jl:aB aV:=[97,116,111,109,115,32,116,104,97,116,32,109,97,121,32,110,111,116,32,98,101]
def UE:aB aV:=[110,111,32,110,97,109,101]
def EK:aB aV:=[116,104,101,114,101,32,105,115,32,115,117,99,104,32,97,32,112,111,108,105,99,121]
def B8:aB aV:=[116,104,101,114,101,32,105,115,32,110,111,32,115,117,99,104,32,112,111,108,105,99,121]
def UD:aB aV:=[116,104,101,114,101,32,97,114,101,32,97,115,32,109,97,110,121,32,112,111,108,105,99,105,101,115,32,97,115,32,109,97,121,32,98,101]
structure dG(w:aC):Prop where
 eNs:∃a,ik w 0 tNs a
 WM:∃a,ik w 5 Pl a
 Sy:∃a,ik w 6 Jl a
 WK:∃a,ik w 1 UE a
 Sz:∃a,ik w 2 EK a
 OM:∃a,ik w 3 B8 a
 WJ:∃a,ik w 4 UD a
theorem dG.keep{w W}(h:dG w)(a:∀k,k<w.heap.size->W.heap[k]?=w.heap[k]?):dG W:=by
 let⟨⟨a1,h1⟩,⟨a2,h2⟩,⟨a3,h3⟩,⟨a4,h4⟩,⟨a5,h5⟩,⟨a6,h6⟩,⟨a7,h7⟩⟩:=h;exact⟨⟨a1,h1.keep a⟩,⟨a2,h2.keep a⟩,⟨a3,h3.keep a⟩,⟨a4,h4.keep a⟩,⟨a5,h5.keep a⟩,⟨a6,h6.keep a⟩,⟨a7,h7.keep a⟩⟩
theorem C6{w T U}{f:FuncId}{b x v L a}(c:(T,f,U)∈[(169,262,171),(154,260,156),(125,252,127)])(g:w.heap[b]?=some (.cells #[x,v] U (0,0)))(h:Ju w v L a):Ju w (.iface T (Pt b)) L a:=by
 let⟨n,h⟩:=h;obtain⟨j,k,rfl⟩:=(h (λ_=>True) λ_ _=>trivial).iface;simp only[gp,oC,iW,oF]at c;let hw:T∈zW/\OC T f:=by rcases c with⟨rfl,rfl,rfl⟩|⟨rfl,rfl,rfl⟩|⟨rfl,rfl,rfl⟩<;>exact⟨by simp[zW],Xf aE⟩
 refine⟨n+1,λok d=>.wrap (d _ hw.1) hw.2 (λW e=>?_) (h ok d)⟩;obtain⟨rfl,rfl,rfl⟩|⟨rfl,rfl,rfl⟩|⟨rfl,rfl,rfl⟩:=c<;>have l:=aD (i:=1) (e.aS g) rfl
 .go_enter func262,ntmps262;go_wp2;go_ret;exact⟨rfl,rfl⟩
 .go_enter func260,ntmps260;go_wp2;go_ret;exact⟨rfl,rfl⟩
 .go_enter func252,ntmps252;go_wp2;go_ret;exact⟨rfl,rfl⟩
theorem yF{w b name v L a}(c:w.heap[b]?=some (.cells #[.string name,v] 171 (0,0)))(h:Ju w v L a):Ju w (.iface 169 (Pt b)) L a:=C6 (f:=262) aE c h
theorem OP{w T}{f:FuncId}{g b t a}(c:(T,f,g)∈[(201,264,0),(290,281,6)])(e:ik w g t a):Ju w (.iface T (.pointer (some b))) 357 a:=by
 simp only[gp,oC,iW,oF]at c;let hw:T∈zW/\OC T f:=by rcases c with⟨rfl,rfl,rfl⟩|⟨rfl,rfl,rfl⟩<;>exact⟨by simp[zW],Xf aE⟩
 refine⟨1,λok d=>.wrap (d _ hw.1) hw.2 (λW h=>?_) (.leaf (W8 (by simp[leaves])))⟩;obtain⟨rfl,rfl,rfl⟩|⟨rfl,rfl,rfl⟩:=c<;>have i:=(e.down h).cell
 .go_enter func264,ntmps264;go_wp2;go_ret;exact⟨rfl,rfl⟩
 .go_enter func281,ntmps281;go_wp2;go_ret;exact⟨rfl,rfl⟩
theorem nX{w T a}(h:T∈leaves):Ju w (.iface T (.pointer (some a))) T a:=⟨0,λ_ _=>.leaf (W8 h)⟩
def jk:aB (Nat×aB aV×Int):=[(0,tNs,1),(1,UE,3),(2,EK,5),(3,B8,6),(4,UD,7),(5,Pl,9),(6,Jl,10)]
def D5:aB (FuncId×TypeId×TypeId×Int):=[(76,130,218,2),(77,131,219,4),(78,132,220,8),(79,133,221,11),(80,134,222,12)]
def rN:aB (TypeId×Int):=[(130,2),(131,4),(132,8),(133,11),(134,12),(287,13)]
def Bot(w:aC)(L:TypeId)(a:a_)(n:Int):Prop:=(L=357/\∃g t,(g,t,n)∈jk/\ik w g t a)\/(L,n)∈rN
def lG(w:aC)(v:aF)(n:Int):Prop:=∃L a,Ju w v L a/\Bot w L a n
theorem lG.down{w W}(c:Bl w W){v n}(h:lG w v n):lG W v n:=by
 obtain⟨L,a,d,⟨rfl,g,t,b,e⟩|b⟩:=h
 .exact⟨_,a,d.down c,.inl ⟨rfl,g,t,b,e.down c⟩⟩
 .exact⟨L,a,d.down c,.inr b⟩
theorem lG.iface{w v n}(h:lG w v n):∃T p,v=.iface T p:=by
 let⟨_,_,h,_⟩:=h;exact h.iface
theorem Q3:∀p∈jk,∀q∈jk,(p.2.2=q.2.2->p.1=q.1)/\(p.2.2≠q.2.2->p.2.1≠q.2.1):=aG
theorem Oa:∀p∈jk,∀q∈rN,q.2≠p.2.2/\q.1≠357:=aG
theorem Qr:∀p∈rN,∀q∈D5,(p.2=q.2.2.2/\p.1=q.2.1)\/(p.2≠q.2.2.2/\q.2.1≠p.1):=aG
theorem Q2:∀p∈jk,∀q∈D5,p.2.2≠q.2.2.2/\q.2.1≠357:=aG
theorem Tt:∀p∈rN,p.1∈leaves++zW:=aG
theorem Qm:∀q∈D5,(q.2.1,q.2.2.1)∈targs:=aG
theorem Ot:∀q∈targs,∀X∈zW,q.1≠X:=aG
theorem isS{w v n m g t a}(h:lG w v n)(i:(g,t,m)∈jk)(f:ik w g t a):
  Calls prog 75 #[v,.iface 357 (.pointer (some a))] w λe l=>e=.returned (.bool (decide (n=m)))/\l=w:=by
 obtain⟨L,o,c,⟨rfl,k,p,d,j⟩|d⟩:=h
 .have:=Q3 _ d _ i;by_cases b:n=m
  .obtain rfl:k=g:=this.1 b;obtain rfl:o=a:=by have:=j.cell.symm.trans f.cell;simpa using this
   rw[kh b];exact Zi c
  .rw[kg b];exact aaE c j f (this.2 b)
 .have:=Oa _ i _ d;rw[kg this.1];exact Zh c this.2
theorem isT{w v n m f T r}(h:lG w v n)(d:(f,T,r,m)∈D5)(x:dW w):
  Calls prog f #[v] w λe y=>e=.returned (.bool (decide (n=m)))/\Bl w y:=by
 let c:=Qm _ d;let s:Bl w (w.alloc (.cells #[.pointer none] T)):=aT.al _;let⟨L,a,hE,hB⟩:=h.down s;let u:(L=T/\decide (n=m)=true)\/(Mj T L/\decide (n=m)=false):=by
  obtain⟨rfl,g,t,j,_⟩|j:=hB
  .have:=Q2 _ j _ d;exact .inr ⟨X2 c (by simp[leaves]) this.2,kg this.1⟩
  .obtain⟨o,p⟩|⟨o,p⟩:=Qr _ j _ d
   .exact .inl ⟨p,kh o⟩
   .exact .inr ⟨X2 c (Tt _ j) p,kg o⟩
 let⟨k,hc⟩:=hE;let i:=JU T r (ZD c) _ k v L a (decide (n=m)) w.heap.size (hc _ λX q=>X2 c (List.mem_append_right _ q) (Ot _ c X q)) u (aP w (.cells #[.pointer none] T (0,0)) _ rfl) (x.below s).et;obtain⟨z,A,rfl⟩:=h.iface;simp only[D5,gp,oC,iW,oF]at d;obtain⟨rfl,rfl,rfl,rfl⟩|⟨rfl,rfl,rfl,rfl⟩|⟨rfl,rfl,rfl,rfl⟩|⟨rfl,rfl,rfl,rfl⟩|⟨rfl,rfl,rfl,rfl⟩:=d
 .go_enter func76,ntmps76;go_wp2_with fail;refine i.m λl b=>?_;go_wp2;go_ret;exact⟨rfl,(aT.al _).trans (b.below aX aE)⟩
 .go_enter func77,ntmps77;go_wp2_with fail;refine i.m λl b=>?_;go_wp2;go_ret;exact⟨rfl,(aT.al _).trans (b.below aX aE)⟩
 .go_enter func78,ntmps78;go_wp2_with fail;refine i.m λl b=>?_;go_wp2;go_ret;exact⟨rfl,(aT.al _).trans (b.below aX aE)⟩
 .go_enter func79,ntmps79;go_wp2_with fail;refine i.m λl b=>?_;go_wp2;go_ret;exact⟨rfl,(aT.al _).trans (b.below aX aE)⟩
 .go_enter func80,ntmps80;go_wp2_with fail;refine i.m λl b=>?_;go_wp2;go_ret;exact⟨rfl,(aT.al _).trans (b.below aX aE)⟩
theorem dG.eE{w}(h:dG w){g t m}(b:(g,t,m)∈jk):∃a,ik w g t a:=by
 simp only[jk,gp,oC,iW,oF]at b;obtain⟨rfl,rfl,_⟩|⟨rfl,rfl,_⟩|⟨rfl,rfl,_⟩|⟨rfl,rfl,_⟩|⟨rfl,rfl,_⟩|⟨rfl,rfl,_⟩|⟨rfl,rfl,_⟩:=b
 .exact h.eNs
 .exact h.WK
 .exact h.Sz
 .exact h.OM
 .exact h.WJ
 .exact h.WM
 .exact h.Sy
theorem jX(v n w)(I:dW w)(s:dG w)(o:lG w v n):
  Calls prog 40 #[v] w λe j=>e=.returned (Iv n)/\Bl w j:=by
 let c:Hid (∀W,Bl w W->∀g t m,(g,t,m)∈jk->∃a,W.cell? (Ad g 0)=some (.iface 357 (.pointer (some a)))/\Calls prog 75 #[v,.iface 357 (.pointer (some a))] W λe j=>e=.returned (.bool (decide (n=m)))/\j=W):=λW b g t m l=>by
  obtain⟨a,u⟩:=(s.keep b.block).eE l;exact⟨a,u.cell,isS (o.down b) l u⟩
 let k:Hid (∀W,Bl w W->∀f T C m,(f,T,C,m)∈D5->Calls prog f #[v] W λe j=>e=.returned (.bool (decide (n=m)))/\Bl W j):=λW b f T C m l=>isT (o.down b) l (I.below b);let p:Hid (¬n=1->¬n=2->¬n=3->¬n=4->¬n=5->¬n=6->¬n=7->¬n=8->¬n=9->¬n=10->¬n=11->¬n=12->n=13):=by
  intro y E G A x H z F D B i h;obtain⟨L,a,_,⟨_,g,t,r,_⟩|r⟩:=o
  .simp only[jk,gp,oC,iW,oF]at r;omega
  .simp only[rN,gp,oC,iW,oF]at r;omega
 obtain⟨O,Q,rfl⟩:=o.iface;let HB:Bl w w:=aT;let⟨a0,c0,h0⟩:=c.out _ HB 0 tNs 1 (by simp[jk]);go_enter func40,ntmps40;go_wp2_with fail;refine h0.m λd ev=>?_;obtain rfl:=ev.symm;by_cases q:n=1
 .rw[kh q];go_wp2;go_ret;exact⟨by rw[q];rfl,HB⟩
 rw[kg q];let y:=hid q;go_wp2_with fail;refine(k.out _ HB 76 130 218 2 (by simp[D5])).m λM b=>?_;replace HB:=HB.tr b;by_cases q:n=2
 .rw[kh q];go_wp2;go_ret;exact⟨by rw[q];rfl,HB⟩
 rw[kg q];let E:=hid q;let⟨a2,c2,h2⟩:=c.out _ HB 1 UE 3 (by simp[jk]);go_wp2_with fail;refine h2.m λd ev=>?_;obtain rfl:=ev.symm;by_cases q:n=3
 .rw[kh q];go_wp2;go_ret;exact⟨by rw[q];rfl,HB⟩
 rw[kg q];let G:=hid q;go_wp2_with fail;refine(k.out _ HB 77 131 219 4 (by simp[D5])).m λN b=>?_;replace HB:=HB.tr b;by_cases q:n=4
 .rw[kh q];go_wp2;go_ret;exact⟨by rw[q];rfl,HB⟩
 rw[kg q];let A:=hid q;let⟨a4,c4,h4⟩:=c.out _ HB 2 EK 5 (by simp[jk]);go_wp2_with fail;refine h4.m λd ev=>?_;obtain rfl:=ev.symm;by_cases q:n=5
 .rw[kh q];go_wp2;go_ret;exact⟨by rw[q];rfl,HB⟩
 rw[kg q];let x:=hid q;let⟨a5,c5,h5⟩:=c.out _ HB 3 B8 6 (by simp[jk]);go_wp2_with fail;refine h5.m λd ev=>?_;obtain rfl:=ev.symm;by_cases q:n=6
 .rw[kh q];go_wp2;go_ret;exact⟨by rw[q];rfl,HB⟩
 rw[kg q];let H:=hid q;let⟨a6,c6,h6⟩:=c.out _ HB 4 UD 7 (by simp[jk]);go_wp2_with fail;refine h6.m λd ev=>?_;obtain rfl:=ev.symm;by_cases q:n=7
 .rw[kh q];go_wp2;go_ret;exact⟨by rw[q];rfl,HB⟩
 rw[kg q];let z:=hid q;go_wp2_with fail;refine(k.out _ HB 78 132 220 8 (by simp[D5])).m λP b=>?_;replace HB:=HB.tr b;by_cases q:n=8
 .rw[kh q];go_wp2;go_ret;exact⟨by rw[q];rfl,HB⟩
 rw[kg q];let F:=hid q;let⟨a8,c8,h8⟩:=c.out _ HB 5 Pl 9 (by simp[jk]);go_wp2_with fail;refine h8.m λd ev=>?_;obtain rfl:=ev.symm;by_cases q:n=9
 .rw[kh q];go_wp2;go_ret;exact⟨by rw[q];rfl,HB⟩
 rw[kg q];let D:=hid q;let⟨a9,c9,h9⟩:=c.out _ HB 6 Jl 10 (by simp[jk]);go_wp2_with fail;refine h9.m λd ev=>?_;obtain rfl:=ev.symm;by_cases q:n=10
 .rw[kh q];go_wp2;go_ret;exact⟨by rw[q];rfl,HB⟩
 rw[kg q];let B:=hid q;go_wp2_with fail;refine(k.out _ HB 79 133 221 11 (by simp[D5])).m λK b=>?_;replace HB:=HB.tr b;by_cases q:n=11
 .rw[kh q];go_wp2;go_ret;exact⟨by rw[q];rfl,HB⟩
 rw[kg q];let i:=hid q;go_wp2_with fail;refine(k.out _ HB 80 134 222 12 (by simp[D5])).m λJ b=>?_;replace HB:=HB.tr b;by_cases q:n=12
 .rw[kh q];go_wp2;go_ret;exact⟨by rw[q];rfl,HB⟩
 rw[kg q];let h:=hid q;go_wp2;go_ret;exact⟨by rw[p.out y.out E.out G.out A.out x.out H.out z.out F.out D.out B.out i.out h.out];rfl,HB⟩
theorem MI(v:aF)(a:a_)(w:aC)(c:dW w)(b:dG w)(f:Ju w v 357 a)(d:ik w 3 B8 a):
  Calls prog 40 #[v] w λe g=>e=.returned (Iv 6)/\Bl w g:=jX v 6 w c b ⟨_,a,f,.inl ⟨rfl,_,_,by simp[jk],d⟩⟩
theorem zD{s w}(a:dG w){z T tb b}(d:(z,T)∈[((1:Int),(201:TypeId)),(2,130)])(c:w.heap[tb]?=some (.cells #[.string s,.iface T (.pointer (some b))] 127 (0,0))):
  lG w (.iface 125 (Pt tb)) z:=by
 let⟨a2,h2⟩:=a.eNs;simp at d;obtain⟨rfl,rfl⟩|⟨rfl,rfl⟩:=d
 .exact⟨_,a2,C6 (f:=252) aE c (OP (f:=264) (g:=0) aE h2),.inl ⟨rfl,_,_,by simp[jk],h2⟩⟩
 .exact⟨_,b,C6 (f:=252) aE c (nX (by simp[leaves])),.inr (by simp[rN])⟩
end Go.Proofs.YtpbbmagjhkakgaaGreatDoor
