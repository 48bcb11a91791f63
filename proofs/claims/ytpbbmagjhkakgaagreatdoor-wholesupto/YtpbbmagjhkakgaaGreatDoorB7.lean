import Derived.Test.YtpbbmagjhkakgaaGreatDoorB4
import Derived.Test.YtpbbmagjhkakgaaGreatDoorB5
import Derived.Deep.LoopGhost
namespace Go.Proofs.YtpbbmagjhkakgaaGreatDoor
set_option maxHeartbeats 4000000
set_option maxRecDepth 100000
open Tryz Go.RowKit Go.Extern.Stop Go.Stop Go.Extern
structure Xo(T:TypeId):Prop where
 YP:∀v xT w,(Instr.typeAssert (.iface T v) xT 268 true).run prog w=.ok (.tuple #[.nilIface,.bool false]) w
 YO:∀v xT w,(Instr.typeAssert (.iface T v) xT 312 true).run prog w=.ok (.tuple #[.nilIface,.bool false]) w
 aar:∀v xT w,(Instr.typeAssert (.iface T v) xT 270 true).run prog w=.ok (.tuple #[.nilIface,.bool false]) w
 XS:∀v xT w,(Instr.typeAssert (.iface T v) xT 272 true).run prog w=.ok (.tuple #[.nilIface,.bool false]) w
structure Pf(T:TypeId)(f:FuncId):Prop where
 YP:∀v xT w,(Instr.typeAssert (.iface T v) xT 268 true).run prog w=.ok (.tuple #[.nilIface,.bool false]) w
 YO:∀v xT w,(Instr.typeAssert (.iface T v) xT 312 true).run prog w=.ok (.tuple #[.nilIface,.bool false]) w
 has:∀v xT w,(Instr.typeAssert (.iface T v) xT 270 true).run prog w=.ok (.tuple #[.iface T v,.bool true]) w
 aao:∀v w,(Go.method 486 T v "Unwrap").run prog w=.ok (f,v) w
 ent:∀args w,(callFunc f args).run prog w=.ok (.enter f args) w
 ne:T≠357
inductive pP(ok:TypeId->Prop)(w:aC):Nat->aE->TypeId->bC->Prop
 |leaf {T:TypeId} {a:bC}:Xo T->pP ok w 0 (.iface T (.pointer (some a))) T a
 |wrap {T:TypeId} {f:FuncId} {b:bC} {n:Nat} {v:aE} {L:TypeId} {a:bC}:ok T->Pf T f->(∀W,Bl w W->Calls prog f #[.pointer (some b)] W λe w'=>e=.returned v/\w'=W)->pP ok w n v L a->pP ok w (n+1) (.iface T (.pointer (some b))) L a
theorem pP.iface{ok w n v L a}(h:pP ok w n v L a):∃T p,v=.iface T p:=by
 cases h<;>exact⟨_,_,rfl⟩
theorem TZ(ok w n v L a t r)(l:pP ok w n v L a)(i:(L=357/\(binOp .eql 89 (.iface 357 (.pointer (some a))) (.iface 357 (.pointer (some t)))).run prog w=.ok (.bool r) w)\/(L≠357/\r=false)):
  Calls prog 118 #[v,.iface 357 (.pointer (some t)),.bool true] w λe s=>e=.returned (.bool r)/\s=w:=by
 let c:=λ(T:TypeId)(p:aE)(d:T≠357)=>run_eql_iface_types (P:=prog) T 357 p (.pointer (some t)) underlying89 d w;replace c:Hid _:=c;replace i:Hid _:=i;let u:=hid l;obtain⟨B,F,rfl⟩:=l.iface;go_enter func118,ntmps118;go_wp2
 go_loopg [0] n (λx ev wr=>Hid (pP ok w x ev L a)/\wr=w)
 case atStart=>exact⟨u,rfl⟩
 case round=>
  let⟨hC,hw0⟩:=hrel;obtain rfl:=hw0.symm;let hC:=hC.out;cases hC with
  |leaf h=>
   let q:=h.YP;let o:=h.aar;let m:=h.XS;obtain⟨rfl,k⟩|⟨d,rfl⟩:=i.out
   .cases r with
    |true=>
     go_wp2;go_ret;exact⟨rfl,rfl⟩
    |false=>
     go_wp2;go_ret;exact⟨rfl,rfl⟩
   .let k:=c.out L (.pointer (some a)) d;go_wp2;go_ret;exact⟨rfl,rfl⟩
  |@wrap T f b y A _ _ _ hw j g=>
   let q:=hw.YP;let C:=hw.has;let o:=hw.aao;let m:=hw.ent;let k:=c.out T (.pointer (some b)) hw.ne;let Hc':=hid g;obtain⟨E,D,rfl⟩:=g.iface;go_wp2_with (go_at_fn f;refine(j _ aV).mono ?_;rintro e z ⟨rfl,rfl⟩)
   go_roundg y
   case measure=>omega
   case rel=>exact⟨Hc',rfl⟩
theorem vP(ok w n v L a t r)(b:pP ok w n v L a)(c:(L=357/\(binOp .eql 89 (.iface 357 (.pointer (some a))) (.iface 357 (.pointer (some t)))).run prog w=.ok (.bool r) w)\/(L≠357/\r=false)):
  Calls prog 75 #[v,.iface 357 (.pointer (some t))] w λe d=>e=.returned (.bool r)/\d=w:=by
 have x1:=@qz prog 117 _ Extern.ReflectliteType.typeOf func117 aL aL aL aL;have x2:=@qz prog 267 _ ZJ func267 aL aL aL aL;have g:=QG;have i:=KG;have f:=yV;have hi:=TZ ok w n v L a t r b c;obtain⟨h,j,rfl⟩:=b.iface;clear c b;go_enter func75,ntmps75;go_wp2_with fail;apply hi.m0;go_wp2_with fail;go_ret;exact⟨rfl,rfl⟩
structure MU(T X:TypeId):Prop where
 typeOf:∀v w,(ReflectliteType.typeOf #[.iface X v]).run prog w=.ok (.iface 266 (.agg #[.pointer (some (Ad (14) X))])) w
 assign:∀w,(ReflectliteType.relation "AssignableTo" ReflectliteType.assignableTo #[.agg #[.pointer (some (Ad (14) X))],.iface 266 (.agg #[.pointer (some (Ad (14) T))])]).run prog w=.ok (.bool false) w
structure SL(T PT:TypeId):Prop where
 valueOf:∀t w,(ReflectliteValue.unpack (.iface PT (.pointer (some t)))).run prog w=.ok (.agg #[.pointer (some (Ad (14) PT)),Pt w.heap.size,.int .u64 150]) (w.alloc (.cells #[.pointer (some t)] PT))
 type:∀a w,(ReflectliteValue.methodAny (ReflectliteValue.valueError "reflectlite.Value.Type" 0) (λt _ _ _=>ReflectliteType.toType t) #[.agg #[.pointer (some (Ad (14) PT)),.pointer (some a),.int .u64 150]]).run prog w=.ok (.iface 266 (.agg #[.pointer (some (Ad (14) PT))])) w
 XL:∀w,(G' #[.pointer (some (Ad (14) PT))]).run prog w=.ok (.int .u8 22) w
 G':∀w,(G' #[.pointer (some (Ad (14) T))]).run prog w=.ok (.int .u8 22) w
 isNil:∀a p W,W.cell? a=some (.pointer (some p))->(ReflectliteValue.method (ReflectliteValue.valueError "reflectlite.Value.IsNil" 0) ReflectliteValue.isNil #[.agg #[.pointer (some (Ad (14) PT)),.pointer (some a),.int .u64 150]]).run prog W=.ok (.bool false) W
 elem:∀w,(ReflectliteType.method ReflectliteType.elem #[.agg #[.pointer (some (Ad (14) PT))]]).run prog w=.ok (.iface 266 (.agg #[.pointer (some (Ad (14) T))])) w
 impl:∀w,(ReflectliteType.relation "Implements" ReflectliteType.implements_ #[.agg #[.pointer (some (Ad (14) T))],.iface 266 (.agg #[.pointer (some (Ad (14) (89)))])]).run prog w=.ok (.bool true) w
 typeOf:∀v w,(ReflectliteType.typeOf #[.iface T v]).run prog w=.ok (.iface 266 (.agg #[.pointer (some (Ad (14) T))])) w
 assign:∀w,(ReflectliteType.relation "AssignableTo" ReflectliteType.assignableTo #[.agg #[.pointer (some (Ad (14) T))],.iface 266 (.agg #[.pointer (some (Ad (14) T))])]).run prog w=.ok (.bool true) w
 Mh:∀e w,(ReflectliteValue.unpack (.iface T (.pointer (some e)))).run prog w=.ok (.agg #[.pointer (some (Ad (14) T)),Pt w.heap.size,.int .u64 150]) (w.alloc (.cells #[.pointer (some e)] T))
 elemV:∀a p W,W.cell? a=some (.pointer (some p))->(ReflectliteValue.method (ReflectliteValue.valueError "reflectlite.Value.Elem" 0) ReflectliteValue.elem #[.agg #[.pointer (some (Ad (14) PT)),.pointer (some a),.int .u64 150]]).run prog W=.ok (.agg #[.pointer (some (Ad (14) T)),.pointer (some p),.int .u64 406]) W
 set:∀ta b e old W,W.cell? b=some (.pointer (some e))->W.cell? ta=some old->W.frozen? ta=false->(ReflectliteValue.set #[.agg #[.pointer (some (Ad (14) T)),.pointer (some ta),.int .u64 406],.agg #[.pointer (some (Ad (14) T)),.pointer (some b),.int .u64 150]]).run prog W=.ok (.tuple #[]) (W.setCell ta (.pointer (some e)))
theorem S3(T d)(h:SL T d)(w n v L a r k q)(y:pP (MU T) w n v L a)(u:(L=T/\r=true)\/(MU T L/\r=false))(t:w.heap[k]?=some (.cells #[.pointer none] T (0,0)))(z:w.cell? (Ad q 0)=some (Pt k)):
  Calls prog 161 #[v,.iface d (Pt k),.agg #[.pointer (some (Ad (14) d)),Pt q,.int .u64 150],.iface 266 (.agg #[.pointer (some (Ad (14) T))])] w λe G=>e=.returned (.bool r)/\Only k w G:=by
 let x1:=@qz prog 158 _ (λm=>ReflectliteValue.unpack (m.getD 0 (.tuple #[]))) func158 aL aL aL aL;let N:=@qz prog 117 _ ReflectliteType.typeOf func117 aL aL aL aL;let K:=@qz prog 266 _ (ReflectliteType.relation "AssignableTo" ReflectliteType.assignableTo) func266 aL aL aL aL;let x9:=@qz prog 187 _ (ReflectliteValue.method (ReflectliteValue.valueError "reflectlite.Value.Elem" 0) ReflectliteValue.elem) func187 aL aL aL aL;let E:=@qz prog 188 _ ReflectliteValue.set func188 aL aL aL aL;let S:=yM;let j:=aN t;let s:(w.alloc (.cells #[.pointer (some (Ad (14) d)),Pt q,.int .u64 150] 278)).cell? (Ad q 0)=some (Pt k):=by
  rw[sJ _ _ (Ad q 0) (eS z)];exact z
 let Q:=h.elemV (Ad q 0) (Ad k 0) _ s;let st:=h.set (Ad k 0) (Ad (w.heap.size+1) 0) a (.pointer none) ((w.alloc (.cells #[.pointer (some (Ad (14) d)),Pt q,.int .u64 150] 278)).alloc (.cells #[.pointer (some a)] T))
  (by rw[FG _ _ _ _ aF];rfl)
  (by rw[sJ _ _ (Ad k 0) bI,sJ _ _ (Ad k 0) j];exact aD (i:=0) t rfl)
  (by rw[World.frozen?_alloc_old _ _ (Ad k 0) bI,World.frozen?_alloc_old _ _ (Ad k 0) (Nat.ne_of_lt j)];exact cK t 0)
 let Z:=h.typeOf;let O:=h.assign;let U:=h.Mh;replace u:Hid _:=u;let H:=hid y;obtain⟨R,p0,rfl⟩:=y.iface;go_enter func161,ntmps161;go_wp2
 go_loopg [0] n (λI ev wr=>Hid (pP (MU T) w I ev L a)/\wr=w.alloc (.cells #[.pointer (some (Ad (14) d)),Pt q,.int .u64 150] 278))
 case atStart=>exact⟨H,rfl⟩
 case round=>
  obtain⟨hC,rfl⟩:=hrel;let hC:=hC.out;cases hC with
  |leaf o=>
   let D:=o.YO;let C:=o.aar;let B:=o.XS;obtain⟨rfl,rfl⟩|⟨c,rfl⟩:=u.out
   .go_wp2;go_ret;exact⟨rfl,(((Only.refl k w).setCell (p:=(Ad k 0)) (.inl rfl) _).alloc _).alloc _⟩
   .let A:=c.typeOf;let F:=c.assign;go_wp2;go_ret;exact⟨rfl,(Only.refl _ _).alloc _⟩
  |@wrap X f b J P _ _ l hw x g=>
   let D:=hw.YO;let V:=hw.has;let C:=hw.aao;let B:=hw.ent;let A:=l.typeOf;let F:=l.assign;let Hc':=hid g;obtain⟨Y,W,rfl⟩:=g.iface;go_wp2_with (go_at_fn f;refine(x _ ((cD _ w).al _)).mono ?_;rintro e M ⟨rfl,rfl⟩)
   go_roundg J
   case measure=>omega
   case rel=>exact⟨Hc',rfl⟩
theorem pP.down{ok w W}(f:Bl w W){n v L a}(h:pP ok w n v L a):pP ok W n v L a:=by
 induction h with
 |leaf d=>exact .leaf d
 |wrap b hw e _ g=>exact .wrap b hw (λi c=>e i (f.tr c)) g
theorem Kl(T b)(c:SL T b)(w n v L a r k)(j:pP (MU T) w n v L a)(m:(L=T/\r=true)\/(MU T L/\r=false))(i:w.heap[k]?=some (.cells #[.pointer none] T (0,0)))(l:w.cell? (Ad (7) 0)=some (.iface 266 (.agg #[.pointer (some (Ad (14) (89)))]))):
  Calls prog 119 #[v,.iface b (Pt k)] w λe p=>e=.returned (.bool r)/\Only k w p:=by
 have x1:=@qz prog 158 _ (λg=>ReflectliteValue.unpack (g.getD 0 (.tuple #[]))) func158 aL aL aL aL;have x2:=@qz prog 159 _ (ReflectliteValue.methodAny (ReflectliteValue.valueError "reflectlite.Value.Type" 0) λt _ _ _=>ReflectliteType.toType t) func159 aL aL aL aL;have x3:=@qz prog 160 _ (ReflectliteValue.method (ReflectliteValue.valueError "reflectlite.Value.IsNil" 0) ReflectliteValue.isNil) func160 aL aL aL aL;have G:=@qz prog 248 _ G' func248 aL aL aL aL;have J:=@qz prog 268 _ (ReflectliteType.method ReflectliteType.elem) func268 aL aL aL aL;have H:=@qz prog 269 _ (ReflectliteType.relation "Implements" ReflectliteType.implements_) func269 aL aL aL aL;have x:=Ki;have A:=Kh;have C:=yN;have M:=c.valueOf;have B:=c.type;have I:=c.XL;have D:=c.G';have z:=c.elem;have E:=c.impl;have s:=aN i;have h:7<w.heap.size:=eS l;have f:Bl w ((w.alloc (.cells #[Pt k] b)).alloc (.cells #[.pointer (some (Ad (14) b)),Pt w.heap.size,.int .u64 150] 278)):=((cD _ w).al _).al _;have d:((w.alloc (.cells #[Pt k] b)).alloc (.cells #[.pointer (some (Ad (14) b)),Pt w.heap.size,.int .u64 150] 278)).cell? (Ad w.heap.size 0)=some (Pt k):=by
  rw[sJ _ _ (Ad w.heap.size 0) aF];simp
 have K:=c.isNil (Ad w.heap.size 0) (Ad k 0) _ d;have o:((w.alloc (.cells #[Pt k] b)).alloc (.cells #[.pointer (some (Ad (14) b)),Pt w.heap.size,.int .u64 150] 278)).cell? (Ad (7) 0)=some (.iface 266 (.agg #[.pointer (some (Ad (14) (89)))])):=by
  rw[sJ _ _ (Ad (7) 0) bI,sJ _ _ (Ad (7) 0) h];exact l
 have u:=S3 T b c _ n v L a r k w.heap.size (j.down f) m (f.aT i) d;obtain⟨F,N,rfl⟩:=j.iface;clear j m i l c f d;go_enter func119,ntmps119;go_wp2_with fail;refine u.m λy q=>?_;go_wp2_with fail;go_ret;exact⟨rfl,(((Only.refl k w).alloc _).alloc _).trans q⟩
def leaves:aB TypeId:=[357,130,131,132,133,134,287]
def Am:aB TypeId:=[169,154,125,201,290]
def targs:aB (TypeId×TypeId):=[(130,218),(131,219),(132,220),(133,221),(134,222)]
theorem XQ{T}(h:T∈leaves):Xo T:=by
 simp only[leaves,gA,gw,oP]at h;obtain rfl|rfl|rfl|rfl|rfl|rfl|rfl:=h<;>exact⟨λv a w=>run_typeAssert_lacksB underlying268 aL aL v a w,λv a w=>run_typeAssert_lacksB underlying312 aL aL v a w,λv a w=>run_typeAssert_lacksB underlying270 aL aL v a w,λv a w=>run_typeAssert_lacksB underlying272 aL aL v a w⟩
theorem XY{T f}(h:(T,f)∈[(169,262),(154,260),(125,252),(201,264),(290,281)]):Pf T f:=by
 simp only[gA,oO,gw,oP]at h;obtain⟨rfl,rfl⟩|⟨rfl,rfl⟩|⟨rfl,rfl⟩|⟨rfl,rfl⟩|⟨rfl,rfl⟩:=h<;>exact⟨λv a w=>run_typeAssert_lacksB underlying268 aL aL v a w,λv a w=>run_typeAssert_lacksB underlying312 aL aL v a w,λv a w=>run_typeAssert_hasB underlying270 aL v a w,λv w=>aL,λb w=>by go_simp,aG⟩
theorem YR{T PT X}(h:(T,PT)∈targs)(b:X∈leaves++Am)(a:T≠X):MU T X:=by
 simp only[targs,leaves,Am,lq,jq,gA,oO,gw,oP]at h b;rcases h with⟨rfl,rfl⟩|⟨rfl,rfl⟩|⟨rfl,rfl⟩|⟨rfl,rfl⟩|⟨rfl,rfl⟩<;>rcases b with rfl|rfl|rfl|rfl|rfl|rfl|rfl|rfl|rfl|rfl|rfl|rfl<;>first|exact absurd rfl a|exact⟨λv w=>aL,λw=>aL⟩
section
variable{T PT:TypeId}
theorem aa6(h:(T,PT)∈targs)(a W):(ReflectliteValue.method (ReflectliteValue.valueError "reflectlite.Value.IsNil" 0) ReflectliteValue.isNil #[.agg #[.pointer (some (Ad (14) PT)),.pointer (some a),.int .u64 150]]).run prog W=(ReflectliteValue.isNil PT a 150 22).run prog W/\(ReflectliteValue.method (ReflectliteValue.valueError "reflectlite.Value.Elem" 0) ReflectliteValue.elem #[.agg #[.pointer (some (Ad (14) PT)),.pointer (some a),.int .u64 150]]).run prog W=(ReflectliteValue.elem PT a 150 22).run prog W:=by
 simp only[targs,gA,oO,gw,oP]at h;obtain⟨rfl,rfl⟩|⟨rfl,rfl⟩|⟨rfl,rfl⟩|⟨rfl,rfl⟩|⟨rfl,rfl⟩:=h<;>exact⟨aL,aL⟩
theorem elT(h:(T,PT)∈targs)(p w):(Rtype.elem? PT).run prog w=.ok (some T) w/\(ReflectliteValue.mk T p ReflectliteValue.flagAddr).run prog w=.ok (.agg #[.pointer (some (Ad (14) T)),.pointer (some p),.int .u64 406]) w:=by
 simp only[targs,gA,oO,gw,oP]at h;obtain⟨rfl,rfl⟩|⟨rfl,rfl⟩|⟨rfl,rfl⟩|⟨rfl,rfl⟩|⟨rfl,rfl⟩:=h<;>exact⟨aL,aL⟩
theorem aa9(h:(T,PT)∈targs)(a b W):(ReflectliteValue.set #[.agg #[.pointer (some (Ad (14) T)),.pointer (some a),.int .u64 406],.agg #[.pointer (some (Ad (14) T)),.pointer (some b),.int .u64 150]]).run prog W=(do let v<-loadVar T b;storeVar T a v;pure (Value.tuple #[])).run prog W:=by
 simp only[targs,gA,oO,gw,oP]at h;obtain⟨rfl,rfl⟩|⟨rfl,rfl⟩|⟨rfl,rfl⟩|⟨rfl,rfl⟩|⟨rfl,rfl⟩:=h<;>kernel_rfl
theorem aaw(h:(T,PT)∈targs):SL T PT:=by
 let d:=aa6 h;let c:=elT h;let j:=aa9 h;simp only[targs,gA,oO,gw,oP]at h;rcases h with⟨rfl,rfl⟩|⟨rfl,rfl⟩|⟨rfl,rfl⟩|⟨rfl,rfl⟩|⟨rfl,rfl⟩<;>exact{
  valueOf:=λt w=>aL
  type:=λa w=>aL
  XL:=λw=>aL
  G':=λw=>aL
  isNil:=λa p W ha=>by
   rw[(d a W).1];simp[ReflectliteValue.isNil,loadVar,isAgg,underlying,underlying218,underlying219,underlying220,underlying221,underlying222,ha,Result.andThen]
  elem:=λw=>aL
  impl:=λw=>aL
  typeOf:=λv w=>aL
  assign:=λw=>aL
  Mh:=λe w=>aL
  elemV:=λa p W ha=>by
   rw[(d a W).2];simp[ReflectliteValue.elem,loadVar,isAgg,underlying,underlying218,underlying219,underlying220,underlying221,underlying222,ha,Result.andThen,(c p W).1,(c p W).2]
  set:=λg b e old W hb f i=>by
   rw[j];simp[loadVar,isAgg,underlying,underlying130,underlying131,underlying132,underlying133,underlying134,hb,Result.andThen,storeVar,Value.cells,storeCells,Addr.add];rw[run_store prog W g _ _ (by rfl)];simp[f,i]}
end
structure iw(w:aC)(g:Nat)(text:aB aX)(a:bC):Prop where
 cell:w.cell? (Ad g 0)=some (.iface 357 (.pointer (some a)))
 str:∃s:a_,w.cell? a=some (.string s)/\s.data.toList=text
 heap:∃c t,w.heap[a.block]?=some (.cells c t (0,0))
theorem iw.keep{w W g b a}(h:iw w g b a)(d:∀k,k<w.heap.size->W.heap[k]?=w.heap[k]?):iw W g b a:=by
 let⟨h1,⟨s,h2,h3⟩,c,t,h4⟩:=h;exact⟨by rw[fP (w:=w) (a:=(Ad g 0)) (d g (eS h1))];exact h1,⟨s,by rw[fP (w:=w) (a:=a) (d a.block (aN h4))];exact h2,h3⟩,c,t,by rw[d a.block (aN h4)];exact h4⟩
theorem iw.down{w W g b a}(h:iw w g b a)(c:Bl w W):iw W g b a:=h.keep c.block
theorem iw.ne{w h g d c e b}(i:iw w h d e)(f:iw w g c b)(a:d≠c):e≠b:=by
 rintro rfl;let⟨s1,c1,e1⟩:=i.str;let⟨s2,c2,e2⟩:=f.str;rw[c1]at c2;cases c2;exact a (e1.symm.trans e2)
def JZ(w:aC)(v:aE)(L:TypeId)(a:bC):Prop:=∃n,∀ok:TypeId->Prop,(∀X∈Am,ok X)->pP ok w n v L a
theorem JZ.down{w W}(c:Bl w W){v L a}(h:JZ w v L a):JZ W v L a:=by
 let⟨n,h⟩:=h;exact⟨n,λok b=>(h ok b).down c⟩
theorem aa4{w:aC}{v:aE}{c b:bC}{l k:Nat}{g f:aB aX}(m:JZ w v 357 c)(h:iw w l g c)(d:iw w k f b)(a:g≠f):
  Calls prog 75 #[v,.iface 357 (.pointer (some b))] w λe o=>e=.returned (.bool false)/\o=w:=by
 let⟨n,hc⟩:=m;let⟨i,hi,Yy⟩:=nA.1 Xt;let⟨j,hj,hjs⟩:=nA.1 Xw;let⟨c1,x1,e1⟩:=h.heap;let⟨c2,x2,e2⟩:=d.heap;exact vP (λ_=>True) w n v _ c b false (hc _ λ_ _=>trivial) (.inl ⟨rfl,run_eql_iface_ptr_other w underlying89 underlying357 hi Yy hj (by rw[hjs];decide) (h.ne d a) e1 e2⟩)
theorem aag{w:aC}{v:aE}{a:bC}(b:JZ w v 357 a):
  Calls prog 75 #[v,.iface 357 (.pointer (some a))] w λe c=>e=.returned (.bool true)/\c=w:=by
 let⟨n,hc⟩:=b;let⟨i,hi,Yy⟩:=nA.1 Xt;let⟨j,hj,hjs⟩:=nA.1 Xw;exact vP (λ_=>True) w n v _ a a true (hc _ λ_ _=>trivial) (.inl ⟨rfl,run_eql_iface_ptr_same (P:=prog) w a underlying89 underlying357 hi Yy hj⟩)
theorem aaf{w v L b a}(c:JZ w v L b)(hL:L≠357):
  Calls prog 75 #[v,.iface 357 (.pointer (some a))] w λe d=>e=.returned (.bool false)/\d=w:=by
 let⟨n,hc⟩:=c;exact vP (λ_=>True) w n v L b a false (hc _ λ_ _=>trivial) (.inr ⟨hL,rfl⟩)
theorem JZ.iface{w v L a}(h:JZ w v L a):∃T p,v=.iface T p:=by
 let⟨n,hc⟩:=h;exact(hc (λ_=>True) λ_ _=>trivial).iface
def tNs:aB aX:=[110,111,32,115,101,110,116,101,110,99,101]
def P0:aB aX:=[97,32,116,105,109,101,32,116,104,97,116,32,109,97,121,32,110,111,116,32,98,101]
def JK:aB aX:=[97,116,111,109,115,32,116,104,97,116,32,109,97,121,32,110,111,116,32,98,101]
def Vj:aB aX:=[110,111,32,110,97,109,101]
def E_:aB aX:=[116,104,101,114,101,32,105,115,32,115,117,99,104,32,97,32,112,111,108,105,99,121]
def Cp:aB aX:=[116,104,101,114,101,32,105,115,32,110,111,32,115,117,99,104,32,112,111,108,105,99,121]
def Vi:aB aX:=[116,104,101,114,101,32,97,114,101,32,97,115,32,109,97,110,121,32,112,111,108,105,99,105,101,115,32,97,115,32,109,97,121,32,98,101]
structure cZ(w:aC):Prop where
 eNs:∃a,iw w 0 tNs a
 Xx:∃a,iw w 5 P0 a
 Tf:∃a,iw w 6 JK a
 Xv:∃a,iw w 1 Vj a
 Tg:∃a,iw w 2 E_ a
 Po:∃a,iw w 3 Cp a
 Xu:∃a,iw w 4 Vi a
theorem cZ.keep{w W}(h:cZ w)(a:∀k,k<w.heap.size->W.heap[k]?=w.heap[k]?):cZ W:=by
 let⟨⟨a1,h1⟩,⟨a2,h2⟩,⟨a3,h3⟩,⟨a4,h4⟩,⟨a5,h5⟩,⟨a6,h6⟩,⟨a7,h7⟩⟩:=h;exact⟨⟨a1,h1.keep a⟩,⟨a2,h2.keep a⟩,⟨a3,h3.keep a⟩,⟨a4,h4.keep a⟩,⟨a5,h5.keep a⟩,⟨a6,h6.keep a⟩,⟨a7,h7.keep a⟩⟩
theorem Dn{w T U}{f:FuncId}{b x v L a}(c:(T,f,U)∈[(169,262,171),(154,260,156),(125,252,127)])(g:w.heap[b]?=some (.cells #[x,v] U (0,0)))(h:JZ w v L a):JZ w (.iface T (Pt b)) L a:=by
 let⟨n,h⟩:=h;obtain⟨j,k,rfl⟩:=(h (λ_=>True) λ_ _=>trivial).iface;simp only[gA,oO,gw,oP]at c;let hw:T∈Am/\Pf T f:=by rcases c with⟨rfl,rfl,rfl⟩|⟨rfl,rfl,rfl⟩|⟨rfl,rfl,rfl⟩<;>exact⟨by simp[Am],XY aF⟩
 refine⟨n+1,λok d=>.wrap (d _ hw.1) hw.2 (λW e=>?_) (h ok d)⟩;obtain⟨rfl,rfl,rfl⟩|⟨rfl,rfl,rfl⟩|⟨rfl,rfl,rfl⟩:=c<;>have l:=aD (i:=1) (e.aT g) rfl
 .go_enter func262,ntmps262;go_wp2;go_ret;exact⟨rfl,rfl⟩
 .go_enter func260,ntmps260;go_wp2;go_ret;exact⟨rfl,rfl⟩
 .go_enter func252,ntmps252;go_wp2;go_ret;exact⟨rfl,rfl⟩
theorem yX{w b name v L a}(c:w.heap[b]?=some (.cells #[.string name,v] 171 (0,0)))(h:JZ w v L a):JZ w (.iface 169 (Pt b)) L a:=Dn (f:=262) aF c h
theorem Pq{w T}{f:FuncId}{g b t a}(c:(T,f,g)∈[(201,264,0),(290,281,6)])(e:iw w g t a):JZ w (.iface T (.pointer (some b))) 357 a:=by
 simp only[gA,oO,gw,oP]at c;let hw:T∈Am/\Pf T f:=by rcases c with⟨rfl,rfl,rfl⟩|⟨rfl,rfl,rfl⟩<;>exact⟨by simp[Am],XY aF⟩
 refine⟨1,λok d=>.wrap (d _ hw.1) hw.2 (λW h=>?_) (.leaf (XQ (by simp[leaves])))⟩;obtain⟨rfl,rfl,rfl⟩|⟨rfl,rfl,rfl⟩:=c<;>have i:=(e.down h).cell
 .go_enter func264,ntmps264;go_wp2;go_ret;exact⟨rfl,rfl⟩
 .go_enter func281,ntmps281;go_wp2;go_ret;exact⟨rfl,rfl⟩
theorem og{w T a}(h:T∈leaves):JZ w (.iface T (.pointer (some a))) T a:=⟨0,λ_ _=>.leaf (XQ h)⟩
def jn:aB (Nat×aB aX×Int):=[(0,tNs,1),(1,Vj,3),(2,E_,5),(3,Cp,6),(4,Vi,7),(5,P0,9),(6,JK,10)]
def Er:aB (FuncId×TypeId×TypeId×Int):=[(76,130,218,2),(77,131,219,4),(78,132,220,8),(79,133,221,11),(80,134,222,12)]
def r_:aB (TypeId×Int):=[(130,2),(131,4),(132,8),(133,11),(134,12),(287,13)]
def Bot(w:aC)(L:TypeId)(a:bC)(n:Int):Prop:=(L=357/\∃g t,(g,t,n)∈jn/\iw w g t a)\/(L,n)∈r_
def lQ(w:aC)(v:aE)(n:Int):Prop:=∃L a,JZ w v L a/\Bot w L a n
theorem lQ.down{w W}(c:Bl w W){v n}(h:lQ w v n):lQ W v n:=by
 obtain⟨L,a,d,⟨rfl,g,t,b,e⟩|b⟩:=h
 .exact⟨_,a,d.down c,.inl ⟨rfl,g,t,b,e.down c⟩⟩
 .exact⟨L,a,d.down c,.inr b⟩
theorem lQ.iface{w v n}(h:lQ w v n):∃T p,v=.iface T p:=by
 let⟨_,_,h,_⟩:=h;exact h.iface
theorem RJ:∀p∈jn,∀q∈jn,(p.2.2=q.2.2->p.1=q.1)/\(p.2.2≠q.2.2->p.2.1≠q.2.1):=aG
theorem OQ:∀p∈jn,∀q∈r_,q.2≠p.2.2/\q.1≠357:=aG
theorem Q3:∀p∈r_,∀q∈Er,(p.2=q.2.2.2/\p.1=q.2.1)\/(p.2≠q.2.2.2/\q.2.1≠p.1):=aG
theorem RI:∀p∈jn,∀q∈Er,p.2.2≠q.2.2.2/\q.2.1≠357:=aG
theorem Uc:∀p∈r_,p.1∈leaves++Am:=aG
theorem QY:∀q∈Er,(q.2.1,q.2.2.1)∈targs:=aG
theorem O5:∀q∈targs,∀X∈Am,q.1≠X:=aG
theorem isS{w v n m g t a}(h:lQ w v n)(i:(g,t,m)∈jn)(f:iw w g t a):
  Calls prog 75 #[v,.iface 357 (.pointer (some a))] w λe l=>e=.returned (.bool (decide (n=m)))/\l=w:=by
 obtain⟨L,o,c,⟨rfl,k,p,d,j⟩|d⟩:=h
 .have:=RJ _ d _ i;by_cases b:n=m
  .obtain rfl:k=g:=this.1 b;obtain rfl:o=a:=by have:=j.cell.symm.trans f.cell;simpa using this
   rw[jS b];exact aag c
  .rw[j_ b];exact aa4 c j f (this.2 b)
 .have:=OQ _ i _ d;rw[j_ this.1];exact aaf c this.2
theorem isT{w v n m f T r}(h:lQ w v n)(d:(f,T,r,m)∈Er)(x:dP w):
  Calls prog f #[v] w λe y=>e=.returned (.bool (decide (n=m)))/\Bl w y:=by
 let c:=QY _ d;let s:Bl w (w.alloc (.cells #[.pointer none] T)):=aV.al _;let⟨L,a,hE,hB⟩:=h.down s;let u:(L=T/\decide (n=m)=true)\/(MU T L/\decide (n=m)=false):=by
  obtain⟨rfl,g,t,j,_⟩|j:=hB
  .have:=RI _ j _ d;exact .inr ⟨YR c (by simp[leaves]) this.2,j_ this.1⟩
  .obtain⟨o,p⟩|⟨o,p⟩:=Q3 _ j _ d
   .exact .inl ⟨p,jS o⟩
   .exact .inr ⟨YR c (Uc _ j) p,j_ o⟩
 let⟨k,hc⟩:=hE;let i:=Kl T r (aaw c) _ k v L a (decide (n=m)) w.heap.size (hc _ λX q=>YR c (List.mem_append_right _ q) (O5 _ c X q)) u (aQ w (.cells #[.pointer none] T (0,0)) _ rfl) (x.below s).et;obtain⟨z,A,rfl⟩:=h.iface;simp only[Er,gA,oO,gw,oP]at d;obtain⟨rfl,rfl,rfl,rfl⟩|⟨rfl,rfl,rfl,rfl⟩|⟨rfl,rfl,rfl,rfl⟩|⟨rfl,rfl,rfl,rfl⟩|⟨rfl,rfl,rfl,rfl⟩:=d
 .go_enter func76,ntmps76;go_wp2_with fail;refine i.m λl b=>?_;go_wp2;go_ret;exact⟨rfl,(aV.al _).trans (b.below aZ aF)⟩
 .go_enter func77,ntmps77;go_wp2_with fail;refine i.m λl b=>?_;go_wp2;go_ret;exact⟨rfl,(aV.al _).trans (b.below aZ aF)⟩
 .go_enter func78,ntmps78;go_wp2_with fail;refine i.m λl b=>?_;go_wp2;go_ret;exact⟨rfl,(aV.al _).trans (b.below aZ aF)⟩
 .go_enter func79,ntmps79;go_wp2_with fail;refine i.m λl b=>?_;go_wp2;go_ret;exact⟨rfl,(aV.al _).trans (b.below aZ aF)⟩
 .go_enter func80,ntmps80;go_wp2_with fail;refine i.m λl b=>?_;go_wp2;go_ret;exact⟨rfl,(aV.al _).trans (b.below aZ aF)⟩
theorem cZ.eE{w}(h:cZ w){g t m}(b:(g,t,m)∈jn):∃a,iw w g t a:=by
 simp only[jn,gA,oO,gw,oP]at b;obtain⟨rfl,rfl,_⟩|⟨rfl,rfl,_⟩|⟨rfl,rfl,_⟩|⟨rfl,rfl,_⟩|⟨rfl,rfl,_⟩|⟨rfl,rfl,_⟩|⟨rfl,rfl,_⟩:=b
 .exact h.eNs
 .exact h.Xv
 .exact h.Tg
 .exact h.Po
 .exact h.Xu
 .exact h.Xx
 .exact h.Tf
theorem j'(v n w)(I:dP w)(s:cZ w)(o:lQ w v n):
  Calls prog 40 #[v] w λe j=>e=.returned (Iv n)/\Bl w j:=by
 let c:Hid (∀W,Bl w W->∀g t m,(g,t,m)∈jn->∃a,W.cell? (Ad g 0)=some (.iface 357 (.pointer (some a)))/\Calls prog 75 #[v,.iface 357 (.pointer (some a))] W λe j=>e=.returned (.bool (decide (n=m)))/\j=W):=λW b g t m l=>by
  obtain⟨a,u⟩:=(s.keep b.block).eE l;exact⟨a,u.cell,isS (o.down b) l u⟩
 let k:Hid (∀W,Bl w W->∀f T C m,(f,T,C,m)∈Er->Calls prog f #[v] W λe j=>e=.returned (.bool (decide (n=m)))/\Bl W j):=λW b f T C m l=>isT (o.down b) l (I.below b);let p:Hid (¬n=1->¬n=2->¬n=3->¬n=4->¬n=5->¬n=6->¬n=7->¬n=8->¬n=9->¬n=10->¬n=11->¬n=12->n=13):=by
  intro y E G A x H z F D B i h;obtain⟨L,a,_,⟨_,g,t,r,_⟩|r⟩:=o
  .simp only[jn,gA,oO,gw,oP]at r;omega
  .simp only[r_,gA,oO,gw,oP]at r;omega
 obtain⟨O,Q,rfl⟩:=o.iface;let HB:Bl w w:=aV;let⟨a0,c0,h0⟩:=c.out _ HB 0 tNs 1 (by simp[jn]);go_enter func40,ntmps40;go_wp2_with fail;refine h0.m λd ev=>?_;obtain rfl:=ev.symm;by_cases q:n=1
 .rw[jS q];go_wp2;go_ret;exact⟨by rw[q];rfl,HB⟩
 rw[j_ q];let y:=hid q;go_wp2_with fail;refine(k.out _ HB 76 130 218 2 (by simp[Er])).m λM b=>?_;replace HB:=HB.tr b;by_cases q:n=2
 .rw[jS q];go_wp2;go_ret;exact⟨by rw[q];rfl,HB⟩
 rw[j_ q];let E:=hid q;let⟨a2,c2,h2⟩:=c.out _ HB 1 Vj 3 (by simp[jn]);go_wp2_with fail;refine h2.m λd ev=>?_;obtain rfl:=ev.symm;by_cases q:n=3
 .rw[jS q];go_wp2;go_ret;exact⟨by rw[q];rfl,HB⟩
 rw[j_ q];let G:=hid q;go_wp2_with fail;refine(k.out _ HB 77 131 219 4 (by simp[Er])).m λN b=>?_;replace HB:=HB.tr b;by_cases q:n=4
 .rw[jS q];go_wp2;go_ret;exact⟨by rw[q];rfl,HB⟩
 rw[j_ q];let A:=hid q;let⟨a4,c4,h4⟩:=c.out _ HB 2 E_ 5 (by simp[jn]);go_wp2_with fail;refine h4.m λd ev=>?_;obtain rfl:=ev.symm;by_cases q:n=5
 .rw[jS q];go_wp2;go_ret;exact⟨by rw[q];rfl,HB⟩
 rw[j_ q];let x:=hid q;let⟨a5,c5,h5⟩:=c.out _ HB 3 Cp 6 (by simp[jn]);go_wp2_with fail;refine h5.m λd ev=>?_;obtain rfl:=ev.symm;by_cases q:n=6
 .rw[jS q];go_wp2;go_ret;exact⟨by rw[q];rfl,HB⟩
 rw[j_ q];let H:=hid q;let⟨a6,c6,h6⟩:=c.out _ HB 4 Vi 7 (by simp[jn]);go_wp2_with fail;refine h6.m λd ev=>?_;obtain rfl:=ev.symm;by_cases q:n=7
 .rw[jS q];go_wp2;go_ret;exact⟨by rw[q];rfl,HB⟩
 rw[j_ q];let z:=hid q;go_wp2_with fail;refine(k.out _ HB 78 132 220 8 (by simp[Er])).m λP b=>?_;replace HB:=HB.tr b;by_cases q:n=8
 .rw[jS q];go_wp2;go_ret;exact⟨by rw[q];rfl,HB⟩
 rw[j_ q];let F:=hid q;let⟨a8,c8,h8⟩:=c.out _ HB 5 P0 9 (by simp[jn]);go_wp2_with fail;refine h8.m λd ev=>?_;obtain rfl:=ev.symm;by_cases q:n=9
 .rw[jS q];go_wp2;go_ret;exact⟨by rw[q];rfl,HB⟩
 rw[j_ q];let D:=hid q;let⟨a9,c9,h9⟩:=c.out _ HB 6 JK 10 (by simp[jn]);go_wp2_with fail;refine h9.m λd ev=>?_;obtain rfl:=ev.symm;by_cases q:n=10
 .rw[jS q];go_wp2;go_ret;exact⟨by rw[q];rfl,HB⟩
 rw[j_ q];let B:=hid q;go_wp2_with fail;refine(k.out _ HB 79 133 221 11 (by simp[Er])).m λK b=>?_;replace HB:=HB.tr b;by_cases q:n=11
 .rw[jS q];go_wp2;go_ret;exact⟨by rw[q];rfl,HB⟩
 rw[j_ q];let i:=hid q;go_wp2_with fail;refine(k.out _ HB 80 134 222 12 (by simp[Er])).m λJ b=>?_;replace HB:=HB.tr b;by_cases q:n=12
 .rw[jS q];go_wp2;go_ret;exact⟨by rw[q];rfl,HB⟩
 rw[j_ q];let h:=hid q;go_wp2;go_ret;exact⟨by rw[p.out y.out E.out G.out A.out x.out H.out z.out F.out D.out B.out i.out h.out];rfl,HB⟩
theorem Nl(v:aE)(a:bC)(w:aC)(c:dP w)(b:cZ w)(f:JZ w v 357 a)(d:iw w 3 Cp a):
  Calls prog 40 #[v] w λe g=>e=.returned (Iv 6)/\Bl w g:=j' v 6 w c b ⟨_,a,f,.inl ⟨rfl,_,_,by simp[jn],d⟩⟩
theorem zY{s w}(a:cZ w){z T tb b}(d:(z,T)∈[((1:Int),(201:TypeId)),(2,130)])(c:w.heap[tb]?=some (.cells #[.string s,.iface T (.pointer (some b))] 127 (0,0))):
  lQ w (.iface 125 (Pt tb)) z:=by
 let⟨a2,h2⟩:=a.eNs;simp at d;obtain⟨rfl,rfl⟩|⟨rfl,rfl⟩:=d
 .exact⟨_,a2,Dn (f:=252) aF c (Pq (f:=264) (g:=0) aF h2),.inl ⟨rfl,_,_,by simp[jn],h2⟩⟩
 .exact⟨_,b,Dn (f:=252) aF c (og (by simp[leaves])),.inr (by simp[r_])⟩
end Go.Proofs.YtpbbmagjhkakgaaGreatDoor
