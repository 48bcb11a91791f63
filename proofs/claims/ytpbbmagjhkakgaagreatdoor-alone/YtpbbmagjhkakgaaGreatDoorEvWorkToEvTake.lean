import Derived.Test.YtpbbmagjhkakgaaGreatDoorEvBackToEvOrder
import Derived.Test.YtpbbmagjhkakgaaGreatDoorPureToPurePrint
import Derived.Test.YtpbbmagjhkakgaaGreatDoorEvRepToEvName
import Derived.Test.YtpbbmagjhkakgaaGreatDoorProg
namespace Go.Proofs.YtpbbmagjhkakgaaGreatDoor
namespace Ev
open Go.RowKit Go.Deep
theorem wp_append_own {P:Program} {o:Oper} {a:Act} {w:World} {K:Act->World->Prop} {Q:Exit->Act->World->Prop} (s x:Operand) (t:TypeId) (aN:o.op=Op.call { callee:=Callee.builtin Builtin.append,args:=#[s,x],argTypes:=#[t,t] })
  (base:Nat) (e:TypeId) (i:TypeInfo) (z:Value) (size bytes:Nat) (h1:P.underlying t=some (.slice e)) (h2:P.info? e=some i) (h3:i.zero=some z) (h4:i.size=size) (h5:i.bytes=bytes) (h6:z.cells.size=size) (h7:0<size)
  (v:Value) (n:Nat) (xs:List Value) (hs:a.eval s=v) (cE:w.ownsRow base e size v n xs) (ad:Addr) (m c:Nat) (news:List Value) (hx:a.eval x=.slice (some ad) m c) (hn:news.length=m*size) (hc:∀ j u,news[j]? = some u->w.cell? (ad.add j)=some u) (h1c:∀ u∈news,u.oneCell'=true)
  (b1:n+m<=maxLen) (b2:(n+m)*bytes<=140737488355328) (hb:base<=w.heap.size)
  (hK:∀ v' w',w'.ownsRow base e size v' (n+m) (xs++news)->w.grownBy w' v.ownBlock->(v'.ownBlock=v.ownBlock\/v'.ownBlock=some w.heap.size)->K (a.put o.dst v') w'):Oper.wp P o a w K Q:=by
 obtain ⟨v',w',dQ,r1,r2,_,r3⟩:=run_append_own_at (P:=P) w base t o.type e i z size bytes h1 h2 h3 h4 h5 h6 h7 v n xs cE ad m c news hn hc h1c b1 b2 hb
 unfold Oper.wp
 simp [execOp,aN,resolve,invoke,builtin,hs,hx,dQ,Result.andThen]
 exact hK v' w' r1 r2 r3
structure EvOff (g:Nat) (c:bx):Prop where
 so:∀ a,c.so=some a->a.block≠g
 ao:∀ a,c.ao=some a->a.block≠g
theorem cZ.only {g:Nat} {w w':World} {c:bx} {e:Pe} (h:cZ w c e) (ho:EvOff g c) (hb:Only g w w'):cZ w' c e:=by
 obtain ⟨sb,s1,s2,s3⟩:=h.so
 have hsb:sb≠g:=ho.so _ s1
 refine { h with so:=⟨sb,s1,Nat.lt_of_lt_of_le s2 hb.size,fun j b hj=>?_⟩,atoms:=fun hne=>?_ }
 ·rw [World.cell?_of_block (hb.block sb s2 hsb)];exact s3 j b hj
 ·obtain ⟨b,off,h1,h2,h3⟩:=h.atoms hne
  exact ⟨b,off,h1,Nat.lt_of_lt_of_le h2 hb.size,fun j hj=>by rw [World.cell?_of_block (hb.block b h2 (ho.ao _ h1))];exact h3 j hj⟩
def eB (w:World) (no:Option Addr) (K:List Key):Prop:=K≠[]->∃ nb,no=some ⟨nb,0,none⟩/\nb<w.heap.size/\∀ (i:Nat) (k:Key),K[i]? = some k->w.cell? ⟨nb,i*6,none⟩=some (.int .i32 k.op)/\w.cell? ⟨nb,i*6+1,none⟩=some (.string k.name)/\w.cell? ⟨nb,i*6+2,none⟩=some (.int .i64 k.lo)/\w.cell? ⟨nb,i*6+3,none⟩=some (.int .i64 k.hi)/\w.cell? ⟨nb,i*6+4,none⟩=some (.int .i64 k.l)/\w.cell? ⟨nb,i*6+5,none⟩=some (.int .i64 k.r)
theorem infoBool:(Tryz.prog.info? 4).map (fun i=>(i.zero,i.size,i.bytes))=some (some (.bool false),1,1):=by kernel_rfl
def uv (L:List Bool):List Value:=L.map Value.bool
structure qh (w:World) (c:bx) (e:Pe):Prop where
 number:c.number=e.number
 time:c.time=e.time
 low : -1000000000000<=e.time/\e.time<=1000000000000
 al:c.al=e.atoms.length
 alen:e.atoms.length<=1000000
 atoms:eI w c.ao e.atoms
theorem qh.only {g:Nat} {w w':World} {c:bx} {e:Pe} (h:qh w c e) (ho:∀ a,c.ao=some a->a.block≠g) (hb:Only g w w'):qh w' c e :=
 ⟨h.number,h.time,h.low,h.al,h.alen,fun hne=>by
  obtain ⟨b,off,h1,h2,h3⟩:=h.atoms hne
  exact ⟨b,off,h1,Nat.lt_of_lt_of_le h2 hb.size,fun j hj=>by rw [World.cell?_of_block (hb.block b h2 (ho _ h1))];exact h3 j hj⟩⟩
def bx.cC (c:bx) (sb sl sc:Nat):bx:={ c with so:=some ⟨sb,0,none⟩,sl:=sl,sc:=sc }
theorem bits_cell {w:World} {B sb sc:Nat} {L:List Bool} (h:w.ownsRow B 4 1 (.slice (some ⟨sb,0,none⟩) L.length sc) L.length (uv L)):∀ j b,L[j]? = some b->w.cell? ⟨sb,j,none⟩=some (.bool b):=fun j b hj =>
 gH h rfl (by simp [uv,hj])
theorem qh.with {w:World} {c:bx} {e:Pe} {B sb sc:Nat} (h:qh w c e) {L:List Bool} (hL:L.length<=1000000) (ho:w.ownsRow B 4 1 (.slice (some ⟨sb,0,none⟩) L.length sc) L.length (uv L)):cZ w (c.cC sb L.length sc) { e with so:=L } :=
 { number:=h.number,time:=h.time,low:=h.low,sl:=rfl,slen:=hL,so:=⟨sb,rfl,(ho.lt sb rfl).2,bits_cell ho⟩,al:=h.al,alen:=h.alen,atoms:=h.atoms }
theorem b7 {w:World} {k i:Nat} {v:Value} {cs:Array Value} {t:TypeId} {m:Nat×Nat} (h:w.heap[k]? = some (.cells cs t m)):(w.setCell ⟨k,i,none⟩ v).heap[k]? = some (.cells (cs.setIfInBounds i v) t m):=by
 simp [World.setCell,Array.getElem?_modify,h,Array.setIfInBounds_def]
theorem qO {E F:Nat->Pe} {m:Nat} (h:∀ i,i<m->E i=F i):cv E m=cv F m:=by
 unfold cv
 exact List.map_congr_left fun x _=>h x.1 x.2
structure WorkAt (g m:Nat) (cg:Array Value) (w wr:World) (e:Pe) (sb sc:Nat):Prop where
 row:wr.heap[g]? = some (.cells (cg.setIfInBounds (m*4+3) (.slice (some ⟨sb,0,none⟩) e.so.length sc)) 159 (0,0))
 own:wr.ownsRow (w.heap.size+1) 4 1 (.slice (some ⟨sb,0,none⟩) e.so.length sc) e.so.length (uv e.so)
 only:Only g w wr
 res:wr.heap[w.heap.size]? = some (.cells #[.int .i64 0,.int .i64 0,.slice none 0 0,.slice none 0 0] 159 (0,0))
theorem WorkAt.ne {g m:Nat} {cg:Array Value} {w wr:World} {e:Pe} {sb sc:Nat} (h:WorkAt g m cg w wr e sb sc):sb≠g:=by
 rintro rfl
 obtain ⟨h1,⟨h2,_⟩ | ⟨g',cap,cur,e1,_,e2,_⟩⟩:=h.own
 ·cases h2
 ·cases e1;have:=h.row;rw [e2] at this;cases this
set_option maxRecDepth 100000 in
set_option maxHeartbeats 8000000 in
theorem workOut_any (no:Option Addr) (aI:Nat) (K:List Key) (g cap m:Nat) (cg:Array Value) (C:Nat->bx) (E:Nat->Pe) (w:World) (hm:m+1<=1000000) (cW:m+1<=cap) (hK:K.length<=1000) (hnc:K.length<=aI)
  (hg:w.heap[g]? = some (.cells cg 159 (0,0))) (hc:∀ i k v,i<m+1->(bf (C i))[k]? = some v->cg[i*4+k]? = some v) (hN:eB w no K) (hng:∀ a,no=some a->a.block≠g) (aN:∀ k∈K,ib k.op) (hA:qg K)
  (hE:∀ i,i<m->cZ w (C i) (E i)) (bT:∀ i,i<m->(E i).so.length=K.length+1) (hoff:∀ i,i<m->EvOff g (C i)) (hM:qh w (C m) (E m)) (hMo:∀ a,(C m).ao=some a->a.block≠g) :
  Calls Tryz.prog 132 #[.slice no K.length aI,.slice (some ⟨g,0,none⟩) (m+1) cap] w fun e W'=>∃ sb sc cur,e=.returned (gv ((C m).cC sb (K.length+1) sc))/\w.heap.size<=sb/\Only g w W'/\
   W'.heap[g]? = some (.cells (cg.setIfInBounds (m*4+3) (.slice (some ⟨sb,0,none⟩) (K.length+1) sc)) 159 (0,0))/\W'.heap[sb]? = some (.cells cur 4 (0,0))/\cZ W' ((C m).cC sb (K.length+1) sc) (b9 (cv E m) K (E m).bare):=by
 have p3:w.cell? ⟨g,m*4+3,none⟩=some (.slice (C m).so (C m).sl (C m).sc):=ae hg (hc m 3 _ (by omega) rfl)
 have f3:w.frozen? ⟨g,m*4+3,none⟩=false:=Lib.frozen_of_heap hg _
 have hgl:=aw hg
 obtain ⟨i0,hi,lr,iU,lu⟩:=info_parts infoBool
 have hmk:∀ w:World,(Instr.makeSlice 157 (.int .i64 1) (.int .i64 (1+(K.length:Int)))).run Tryz.prog w=.ok (.slice (some ⟨w.heap.size,0,none⟩) 1 (K.length+1)) (w.alloc (.cells (madeCells (Value.bool false).cells (K.length+1)) 4)):=fun w=>by
  have:=run_makeSlice (P:=Tryz.prog) w 157 4 i0 _ Tryz.underlying157 hi lr .i64 .i64 1 (1+(K.length:Int)) (by omega) (by omega) (by rw [iU];omega) (by rw [lu];omega) (by omega)
  rw [this,iU]
  have e1:(1+(K.length:Int)).toNat=K.length+1:=by omega
  rw [e1]
  simp
 have hbare:(E m).bare.so.length=1:=rfl
 generalize hn:K.length=n at *
 have hWst:WorkAt g m cg w (((w.setCell ⟨g,m*4+3,none⟩ (.slice (some ⟨w.heap.size+1,0,none⟩) 1 (n+1))).alloc (.cells #[.int .i64 0,.int .i64 0,.slice none 0 0,.slice none 0 0] 159)).alloc (.cells (madeCells #[.bool false] (n+1)) 4)) (b9 (cv E m) (K.take 0) (E m).bare) (w.heap.size+1) (n+1):=by
  have hss:(w.setCell ⟨g,m*4+3,none⟩ (.slice (some ⟨w.heap.size+1,0,none⟩) 1 (n+1))).heap.size=w.heap.size:=by simp [World.setCell]
  have e0:(b9 (cv E m) (K.take 0) (E m).bare)=(E m).bare:=rfl
  rw [e0]
  refine ⟨?_,⟨rfl,.inr ⟨w.heap.size+1,n+1,_,rfl,Nat.le_refl _,aB _ _ _ (by simp [World.setCell]),by simp [Pe.bare],by unfold maxLen;omega,by simp [size_madeCells],?_⟩⟩,(((Only.refl g w).setCell (p:=⟨g,m*4+3,none⟩) (.inl rfl) _).alloc _).alloc _,?_⟩
  ·rw [Below.heap_alloc _ _ _ (by simp [World.setCell];omega),Below.heap_alloc _ _ _ (by simp [World.setCell];omega)];exact b7 hg
  ·rw [toList_madeCells_one];rfl
  ·rw [Below.heap_alloc _ _ _ (by simp [World.setCell])];exact aB _ _ _ (by simp [World.setCell])
 go_enter Tryz.func132,Tryz.ntmps132
 go_wp2_with fail
 generalize (((w.setCell ⟨g,m*4+3,none⟩ (.slice (some ⟨w.heap.size+1,0,none⟩) 1 (n+1))).alloc (.cells #[.int .i64 0,.int .i64 0,.slice none 0 0,.slice none 0 0] 159)).alloc (.cells (madeCells #[.bool false] (n+1)) 4))=Wst at hWst ⊢
 clear hmk p3 f3
 go_loopw [22] (fun iv wr=>∃ (j:Nat) (sb sc:Nat),iv=.int .i64 j/\j<=n/\WorkAt g m cg w wr (b9 (cv E m) (K.take j) (E m).bare) sb sc) (fun iv _=>n-(intOf iv).toNat)
 case atStart=>exact ⟨0,_,_,rfl,Nat.zero_le _,hWst⟩
 case round =>
  clear hWst
  obtain ⟨j,sb,sc,rfl,hjn,hW⟩:=hrel
  obtain ⟨w1,w2,w3,w4,_⟩:=eZ (cv E m) (K.take j) (E m).bare
  have hlen:(b9 (cv E m) (K.take j) (E m).bare).so.length=j+1:=by rw [w4,List.length_take,hbare];omega
  have hEj:(b9 (cv E m) (K.take j) (E m).bare)={ E m with so:=(b9 (cv E m) (K.take j) (E m).bare).so }:=by
   have:∀ a b:Pe,a.number=b.number->a.time=b.time->a.atoms=b.atoms->a={ b with so:=a.so }:=fun a b h1 h2 h3=>by cases a;cases b;simp at h1 h2 h3;simp [h1,h2,h3]
   exact this _ _ w1 w2 w3
  by_cases hj:j<n
  ·have hjl:j<K.length:=by omega
   have hkget:K[j]? = some K[j]:=List.getElem?_eq_getElem hjl
   obtain ⟨nb,rfl,hnb,hnk⟩:=hN (by intro h;rw [h] at hjl;simp at hjl)
   have hnbg:nb≠g:=hng _ rfl
   have hkop:=aN _ (List.mem_of_getElem? hkget)
   obtain ⟨a1,a2,a3,a4⟩:=hA j _ hkget
   obtain ⟨c0,c1,c2,c3,c4,c5⟩:=hnk j _ hkget
   have hsnoc:b9 (cv E m) (K.take (j+1)) (E m).bare=(b9 (cv E m) (K.take j) (E m).bare).add (jn K[j] (b9 (cv E m) (K.take j) (E m).bare) (cv E m)):=by
    rw [<- List.take_append_getElem hjl,uf]
   generalize K[j]=k at *
   obtain ⟨ln,hln⟩:∃ ln:Nat,k.l=(ln:Int):=⟨k.l.toNat,by omega⟩
   obtain ⟨rn,hrn⟩:∃ rn:Nat,k.r=(rn:Int):=⟨k.r.toNat,by omega⟩
   rw [hln] at c4 a2
   rw [hrn] at c5 a4
   have hkey:k=⟨k.op,k.name,k.lo,k.hi,(ln:Int),(rn:Int)⟩:=by rw [<- hln,<- hrn]
   generalize hej:b9 (cv E m) (K.take j) (E m).bare=ej at *
   have hO:∀ b,b<w.heap.size->b≠g->wr.heap[b]? = w.heap[b]?:=hW.only.block
   have d0:wr.cell? ⟨nb,j*6,none⟩=some (.int .i32 k.op):=(World.cell?_of_block (hO nb hnb hnbg)).trans c0
   have d1:wr.cell? ⟨nb,j*6+1,none⟩=some (.string k.name):=(World.cell?_of_block (hO nb hnb hnbg)).trans c1
   have d2:wr.cell? ⟨nb,j*6+2,none⟩=some (.int .i64 k.lo):=(World.cell?_of_block (hO nb hnb hnbg)).trans c2
   have d3:wr.cell? ⟨nb,j*6+3,none⟩=some (.int .i64 k.hi):=(World.cell?_of_block (hO nb hnb hnbg)).trans c3
   have d4:wr.cell? ⟨nb,j*6+4,none⟩=some (.int .i64 (ln:Int)):=(World.cell?_of_block (hO nb hnb hnbg)).trans c4
   have d5:wr.cell? ⟨nb,j*6+5,none⟩=some (.int .i64 (rn:Int)):=(World.cell?_of_block (hO nb hnb hnbg)).trans c5
   have HS:Hid (∀ w',Below wr.heap.size wr w'->Calls Tryz.prog 169 #[.agg #[.int .i32 k.op,.string k.name,.int .i64 k.lo,.int .i64 k.hi,.int .i64 (ln:Int),.int .i64 (rn:Int)],.slice (some ⟨g,0,none⟩) (m+1) cap] w' fun e W'=>e=.returned (.bool (jn k ej (cv E m)))/\Below w'.heap.size w' W'):=fun w' hb=>by
    have hrow':=hb.aE hW.row
    have hcw:∀ i q v,i<m+1->(bf (if i=m then (C m).cC sb (j+1) sc else C i))[q]? = some v->w'.cell? ⟨g,i*4+q,none⟩=some v:=fun i q v hi hv=>by
     refine ae hrow' ?_
     rw [hlen]
     by_cases him:i=m
     ·subst him
      rw [if_pos rfl] at hv
      have h3:=hc i 3 _ hi (show (bf (C i))[3]? = some _ from rfl)
      have h3l:i*4+3<cg.size:=(Array.getElem?_eq_some_iff.1 h3).1
      rcases q with _ | _ | _ | _ | q
      ·rw [Array.getElem?_setIfInBounds_ne (by omega)];exact hc i 0 v hi hv
      ·rw [Array.getElem?_setIfInBounds_ne (by omega)];exact hc i 1 v hi hv
      ·rw [Array.getElem?_setIfInBounds_ne (by omega)];exact hc i 2 v hi hv
      ·have hv':some (.slice (some ⟨sb,0,none⟩) (j+1) sc)=some v:=hv
       rw [Array.getElem?_setIfInBounds_self_of_lt h3l];exact hv'
      ·simp [bf] at hv
     ·rw [if_neg him] at hv
      have hq:q<4:=by have:=(List.getElem?_eq_some_iff.1 hv).1;simpa [bf] using this
      rw [Array.getElem?_setIfInBounds_ne (by omega)];exact hc i q v hi hv
    have hEw:∀ i,i<m+1->cZ w' (if i=m then (C m).cC sb (j+1) sc else C i) (if i=m then ej else E i):=fun i hi=>by
     by_cases him:i=m
     ·rw [if_pos him,if_pos him]
      have h1:=(hM.only (g:=g) hMo (hW.only.trans (Only.aL hb))).with (L:=ej.so) (by rw [hlen];omega) (dw hW.own fun b hbb=>hb.block b (hW.own.lt b hbb).2)
      rw [hlen,<- hEj] at h1
      exact h1
     ·rw [if_neg him,if_neg him]
      exact (hE i (by omega)).only (hoff i (by omega)) (hW.only.trans (Only.aL hb))
    have hlr:∀ (x:Nat),x<=j->∀ i,i<m+1->x<(if i=m then ej else E i).so.length:=fun x hx i hi=>by
     by_cases him:i=m
     ·rw [if_pos him,hlen];omega
     ·rw [if_neg him,bT i (by omega)];omega
    have:=says_any k.op k.name k.lo k.hi ln rn g cap m (fun i=>if i=m then (C m).cC sb (j+1) sc else C i) (fun i=>if i=m then ej else E i) w' hkop hm (Nat.lt_of_lt_of_le (aw hW.row) hb.size) cW hcw hEw (hlr ln (by omega)) (hlr rn (by omega))
    rw [if_pos rfl,<- hkey,qO (F:=E) (fun i hi=>by rw [if_neg (by omega)])] at this
    exact this
   have hsb:=hW.ne
   have jF:=hW.row
   have kR:=hW.own
   have hon1:=hW.only
   have mP:=hW.res
   rw [hlen] at jF kR
   have hgl1:=aw jF
   have h3l:m*4+3<cg.size:=(Array.getElem?_eq_some_iff.1 (hc m 3 _ (by omega) rfl)).1
   generalize hbit:jn k ej (cv E m)=bit at *
   have Hsnoc:Hid _:=hsnoc
   clear hE bT hoff hM hMo hN hng aN hA hc hW hnk c0 c1 c2 c3 c4 c5 hO hEj hkey hsnoc
   go_wp2_with fail
   have hX:(wr.alloc (.cells #[.int .i32 k.op,.string k.name,.int .i64 k.lo,.int .i64 k.hi,.int .i64 (ln:Int),.int .i64 (rn:Int)] 226)).heap[wr.heap.size]? = some (.cells #[.int .i32 k.op,.string k.name,.int .i64 k.lo,.int .i64 k.hi,.int .i64 (ln:Int),.int .i64 (rn:Int)] 226 (0,0)):=aB _ _ _ rfl
   have a_:Below wr.heap.size wr (wr.alloc (.cells #[.int .i32 k.op,.string k.name,.int .i64 k.lo,.int .i64 k.hi,.int .i64 (ln:Int),.int .i64 (rn:Int)] 226)):=(Below.refl _ _).al _
   have hsz1:(wr.alloc (.cells #[.int .i32 k.op,.string k.name,.int .i64 k.lo,.int .i64 k.hi,.int .i64 (ln:Int),.int .i64 (rn:Int)] 226)).heap.size=wr.heap.size+1:=by simp
   generalize (wr.alloc (.cells #[.int .i32 k.op,.string k.name,.int .i64 k.lo,.int .i64 k.hi,.int .i64 (ln:Int),.int .i64 (rn:Int)] 226))=W1 at hX a_ hsz1 ⊢
   generalize hXe:wr.heap.size=X at *
   have kj:Hid (∀ w',Below W1.heap.size W1 w'->(fun w'=>w'.cell? ⟨g,m*4+3,none⟩=some (.slice (some ⟨sb,0,none⟩) (j+1) sc)/\w'.cell? ⟨X,0,none⟩=some (.int .i32 k.op)/\w'.cell? ⟨X,1,none⟩=some (.string k.name)/\w'.cell? ⟨X,2,none⟩=some (.int .i64 k.lo)/\w'.cell? ⟨X,3,none⟩=some (.int .i64 k.hi)/\w'.cell? ⟨X,4,none⟩=some (.int .i64 (ln:Int))/\w'.cell? ⟨X,5,none⟩=some (.int .i64 (rn:Int))) w'):=fun w' hb=>by
    have hx:=hb.aE hX
    have hr:=hb.aE ((a_.block g hgl1).trans jF)
    exact ⟨ae hr (by rw [Array.getElem?_setIfInBounds_self_of_lt h3l]),ae hx rfl,ae hx rfl,ae hx rfl,ae hx rfl,ae hx rfl,ae hx rfl⟩
   have hZ:=kj.out _ (Below.refl _ W1).drew
   refine bh.begin (S:=(fun w'=>w'.cell? ⟨g,m*4+3,none⟩=some (.slice (some ⟨sb,0,none⟩) (j+1) sc)/\w'.cell? ⟨X,0,none⟩=some (.int .i32 k.op)/\w'.cell? ⟨X,1,none⟩=some (.string k.name)/\w'.cell? ⟨X,2,none⟩=some (.int .i64 k.lo)/\w'.cell? ⟨X,3,none⟩=some (.int .i64 k.hi)/\w'.cell? ⟨X,4,none⟩=some (.int .i64 (ln:Int))/\w'.cell? ⟨X,5,none⟩=some (.int .i64 (rn:Int)))) (fin:=12) (by kernel_rfl) ?_
   simp only [List.size_toArray,List.length_cons,List.length_nil,Nat.reduceAdd,Nat.zero_add]
   refine bh.take 0 (v:=?v0) rfl (by decide +kernel) (by decide +kernel) (by decide +kernel) (by decide +kernel) (fun _ _ _ h=>h) (by rfl) (fun w' hS=>Go.Conc.run_eq_of ?r0) hZ ?_
   case r0 =>
    intro K' hK'
    obtain ⟨y0,y1,y2,y3,y4,y5,y6⟩:=hS
    go_simp
    exact hK'
   try walk_nrm
   refine bh.take 1 (v:=?v1) rfl (by decide +kernel) (by decide +kernel) (by decide +kernel) (by decide +kernel) (fun _ _ _ h=>h) (by rfl) (fun w' hS=>Go.Conc.run_eq_of ?r1) hZ ?_
   case r1 =>
    intro K' hK'
    obtain ⟨y0,y1,y2,y3,y4,y5,y6⟩:=hS
    go_simp
    exact hK'
   try walk_nrm
   refine bh.take 2 (v:=?v2) rfl (by decide +kernel) (by decide +kernel) (by decide +kernel) (by decide +kernel) (fun _ _ _ h=>h) (by rfl) (fun w' hS=>Go.Conc.run_eq_of ?r2) hZ ?_
   case r2 =>
    intro K' hK'
    obtain ⟨y0,y1,y2,y3,y4,y5,y6⟩:=hS
    go_simp
    exact hK'
   try walk_nrm
   refine bh.take 3 (v:=?v3) rfl (by decide +kernel) (by decide +kernel) (by decide +kernel) (by decide +kernel) (fun _ _ _ h=>h) (by rfl) (fun w' hS=>Go.Conc.run_eq_of ?r3) hZ ?_
   case r3 =>
    intro K' hK'
    obtain ⟨y0,y1,y2,y3,y4,y5,y6⟩:=hS
    go_simp
    exact hK'
   try walk_nrm
   refine bh.take 4 (v:=?v4) rfl (by decide +kernel) (by decide +kernel) (by decide +kernel) (by decide +kernel) (fun _ _ _ h=>h) (by rfl) (fun w' hS=>Go.Conc.run_eq_of ?r4) hZ ?_
   case r4 =>
    intro K' hK'
    obtain ⟨y0,y1,y2,y3,y4,y5,y6⟩:=hS
    go_simp
    exact hK'
   try walk_nrm
   refine bh.take 5 (v:=?v5) rfl (by decide +kernel) (by decide +kernel) (by decide +kernel) (by decide +kernel) (fun _ _ _ h=>h) (by rfl) (fun w' hS=>Go.Conc.run_eq_of ?r5) hZ ?_
   case r5 =>
    intro K' hK'
    obtain ⟨y0,y1,y2,y3,y4,y5,y6⟩:=hS
    go_simp
    exact hK'
   try walk_nrm
   refine bh.take 6 (v:=?v6) rfl (by decide +kernel) (by decide +kernel) (by decide +kernel) (by decide +kernel) (fun _ _ _ h=>h) (by rfl) (fun w' hS=>Go.Conc.run_eq_of ?r6) hZ ?_
   case r6 =>
    intro K' hK'
    obtain ⟨y0,y1,y2,y3,y4,y5,y6⟩:=hS
    go_simp
    exact hK'
   try walk_nrm
   refine bh.one (i:=7) (by decide +kernel) rfl (by rfl) ?_
   unfold Oper.wp
   rw [Go.Conc.run_call_body (f:=169) (args:=#[.tmp 31,.tmp 32]) (ats:=#[226,146]) rfl Tryz.func169 (by decide) rfl]
   simp only [Oper.upon,List.map_toArray,List.map_cons,List.map_nil]
   change Calls Tryz.prog 169 #[.agg #[.int .i32 k.op,.string k.name,.int .i64 k.lo,.int .i64 k.hi,.int .i64 (ln:Int),.int .i64 (rn:Int)],.slice (some ⟨g,0,none⟩) (m+1) cap] W1.drew _
   refine (HS.out W1.drew a_.drew).mono ?_
   rintro e w1 ⟨rfl,cB⟩
   replace cB:Below W1.heap.size W1 w1:=(Below.refl _ W1).drew.trans cB
   refine ⟨fun _=>kj.out _ cB,?_⟩
   try walk_nrm
   refine bh.op (i:=8) (by decide +kernel) rfl (by rfl) (fun K' hK'=>?_)
   unfold Oper.wp
   go_simp
   refine hK' _ _ ⟨fun _=>kj.out _ (cB.al _),?_⟩
   clear hK' K'
   try walk_nrm
   have gi:(w1.alloc (.cells #[.bool bit] 4)).ownsRow (w.heap.size+1) 4 1 (.slice (some ⟨sb,0,none⟩) (j+1) sc) (j+1) (uv ej.so):=by
    have o1:=dw kR (w':=W1) fun b hbb=>a_.block b (by have:=(kR.lt b hbb).2;omega)
    have o2:=dw o1 (w':=w1) fun b hbb=>cB.block b (o1.lt b hbb).2
    exact o2.alloc _
   have hww:w.heap.size+1<=w1.heap.size:=by have:=(kR.lt sb rfl);have:=cB.size;omega
   refine bh.one (i:=9) (by decide +kernel) rfl (by rfl) (wp_append_own (.tmp 30) (.tmp 34) 157 rfl (w.heap.size+1) 4 i0 _ 1 1 Tryz.underlying157 hi lr iU lu rfl (by decide) (.slice (some ⟨sb,0,none⟩) (j+1) sc) (j+1) (uv ej.so) rfl gi ⟨w1.heap.size,0,none⟩ 1 1 [.bool bit] rfl rfl (cell_one_new w1 _ 4) (by simp [Value.oneCell']) (by unfold maxLen;omega) (by omega) (by simp;omega) ?_)
   intro v' w2 dm bz hor
   obtain ⟨sb2,sc2,rfl⟩:=ownsRow_succ dm
   have hXsb:X≠sb:=by have:=(kR.lt sb rfl).2;omega
   have hgg:w2.heap[g]? = some (.cells (cg.setIfInBounds (m*4+3) (.slice (some ⟨sb,0,none⟩) (j+1) sc)) 159 (0,0)):=by
    have h1:=(cB.al (.cells #[.bool bit] 4)).aE ((a_.block g hgl1).trans jF)
    rw [bz.block g (aw h1) (fun e=>hsb (by cases e;rfl))];exact h1
   have hxx:w2.heap[X]? = some (.cells #[.int .i32 k.op,.string k.name,.int .i64 k.lo,.int .i64 k.hi,.int .i64 (ln:Int),.int .i64 (rn:Int)] 226 (0,0)):=by
    have h1:=(cB.al (.cells #[.bool bit] 4)).aE hX
    rw [bz.block X (aw h1) (fun e=>hXsb (by cases e;rfl))];exact h1
   have hS2:(fun w'=>w'.cell? ⟨g,m*4+3,none⟩=some (.slice (some ⟨sb,0,none⟩) (j+1) sc)/\w'.cell? ⟨X,0,none⟩=some (.int .i32 k.op)/\w'.cell? ⟨X,1,none⟩=some (.string k.name)/\w'.cell? ⟨X,2,none⟩=some (.int .i64 k.lo)/\w'.cell? ⟨X,3,none⟩=some (.int .i64 k.hi)/\w'.cell? ⟨X,4,none⟩=some (.int .i64 (ln:Int))/\w'.cell? ⟨X,5,none⟩=some (.int .i64 (rn:Int))) w2:=⟨ae hgg (by rw [Array.getElem?_setIfInBounds_self_of_lt h3l]),ae hxx rfl,ae hxx rfl,ae hxx rfl,ae hxx rfl,ae hxx rfl,ae hxx rfl⟩
   have hsbl:=(kR.lt sb rfl).1
   have hon2:Only g w w2:=by
    have o1:Only g w (w1.alloc (.cells #[.bool bit] 4)):=((hon1.trans (Only.aL (hXe▸a_))).trans (Only.aL cB)).alloc _
    exact ⟨bz.os.trans o1.os,bz.tape.trans o1.tape,bz.output.trans o1.output,Nat.le_trans o1.size bz.size,fun b hb hbg=>(bz.block b (Nat.lt_of_lt_of_le hb o1.size) (fun e=>absurd (show b=sb by simpa [Value.ownBlock] using e) (by omega))).trans (o1.block b hb hbg)⟩
   have hres2:w2.heap[w.heap.size]? = some (.cells #[.int .i64 0,.int .i64 0,.slice none 0 0,.slice none 0 0] 159 (0,0)):=by
    have h1:=(cB.al (.cells #[.bool bit] 4)).aE ((a_.block _ (by have:=aw mP;omega)).trans mP)
    rw [bz.block _ (aw h1) (fun e=>absurd (show w.heap.size=sb by simpa [Value.ownBlock] using e) (by omega))];exact h1
   have hsb2:sb2≠g:=by
    rintro rfl
    obtain ⟨_,⟨h2,_⟩ | ⟨g',mq,cur,e1,_,e2,_⟩⟩:=dm
    ·cases h2
    ·cases e1;rw [hgg] at e2;cases e2
   refine ⟨fun _=>hS2,?_⟩
   try walk_nrm
   refine bh.op (i:=10) (by decide +kernel) rfl (by rfl) (fun K' hK'=>?_)
   unfold Oper.wp
   go_simp
   refine hK' _ _ ⟨fun _=>hS2,?_⟩
   clear hK' K'
   try walk_nrm
   refine bh.op (i:=11) (by decide +kernel) rfl (by rfl) (fun K' hK'=>?_)
   unfold Oper.wp
   go_simp
   refine hK' _ _ ⟨fun _=>hS2,?_⟩
   clear hK' K'
   try walk_nrm
   refine bh.op (i:=12) (by decide +kernel) rfl (by rfl) (fun K' hK'=>?_)
   unfold Oper.wp
   have r_:=hS2.1
   have hf3:w2.frozen? ⟨g,m*4+3,none⟩=false:=Lib.frozen_of_heap hgg _
   go_simp
   refine hK' _ _ ⟨fun x=>absurd rfl x,?_⟩
   clear hK' K'
   refine bh.done (by decide +kernel) ?_ _
   try walk_nrm
   have bH:WorkAt g m cg w (w2.setCell ⟨g,m*4+3,none⟩ (.slice (some ⟨sb2,0,none⟩) (j+1+1) sc2)) (b9 (cv E m) (K.take (j+1)) (E m).bare) sb2 sc2:=by
    rw [Hsnoc.out]
    have hl2:(ej.add bit).so.length=j+1+1:=by simp [Pe.add,hlen]
    refine ⟨?_,?_,hon2.setCell (p:=⟨g,m*4+3,none⟩) (.inl rfl) _,?_⟩
    ·rw [hl2]
     have:=b7 (i:=m*4+3) (v:=.slice (some ⟨sb2,0,none⟩) (j+1+1) sc2) hgg
     rwa [Array.setIfInBounds_setIfInBounds] at this
    ·rw [hl2]
     have e1:uv (ej.add bit).so=uv ej.so++[.bool bit]:=by simp [uv,Pe.add]
     rw [e1]
     exact dw dm fun b hbb=>Below.heap_setCell _ _ _ _ (by cases hbb;exact fun e=>hsb2 e)
    ·rw [Below.heap_setCell _ _ _ _ (by show w.heap.size≠g;omega)];exact hres2
   go_wp2_with fail
   go_roundw
   case rel=>exact ⟨j+1,sb2,sc2,by go_num,by omega,bH⟩
   case measure=>simp only [intOf];omega
  ·obtain rfl:j=n:=by omega
   have hMw:=(hM.only (g:=g) hMo hW.only).with (L:=(b9 (cv E m) (K.take j) (E m).bare).so) (by rw [hlen];omega) hW.own
   rw [hlen,<- hEj,List.take_of_length_le (by omega)] at hMw
   have jF:=hW.row
   have kR:=hW.own
   have hon1:=hW.only
   have mP:=hW.res
   have hsb:=hW.ne
   have hsbl:=(kR.lt sb rfl).1
   rw [hlen] at jF kR
   have h3:=hc m 3 _ (by omega) (show (bf (C m))[3]? = some _ from rfl)
   have h3l:m*4+3<cg.size:=(Array.getElem?_eq_some_iff.1 h3).1
   have p0:wr.cell? ⟨g,m*4,none⟩=some (.int .i64 (C m).number):=ae jF (by rw [Array.getElem?_setIfInBounds_ne (by omega)];exact hc m 0 _ (by omega) rfl)
   have p1:wr.cell? ⟨g,m*4+1,none⟩=some (.int .i64 (C m).time):=ae jF (by rw [Array.getElem?_setIfInBounds_ne (by omega)];exact hc m 1 _ (by omega) rfl)
   have p2:wr.cell? ⟨g,m*4+2,none⟩=some (.slice (C m).ao (C m).al (C m).ac):=ae jF (by rw [Array.getElem?_setIfInBounds_ne (by omega)];exact hc m 2 _ (by omega) rfl)
   have p3:wr.cell? ⟨g,m*4+3,none⟩=some (.slice (some ⟨sb,0,none⟩) (j+1) sc):=ae jF (by rw [Array.getElem?_setIfInBounds_self_of_lt h3l])
   have r0:=ae (i:=0) mP rfl
   have r1:=ae (i:=1) mP rfl
   have r2:=ae (i:=2) mP rfl
   have r3:=ae (i:=3) mP rfl
   have fz:∀ q,wr.frozen? ⟨w.heap.size,q,none⟩=false:=fun q=>Lib.frozen_of_heap mP q
   have HM:Hid (eI w (C m).ao (E m).atoms):=hM.atoms
   have HMo:Hid (∀ a,(C m).ao=some a->a.block≠g):=hMo
   clear hE bT hoff hM hMo hN hng aN hA hc hW hEj
   go_wp2_with fail
   have hR:=b7 (i:=3) (v:=.slice (some ⟨sb,0,none⟩) (j+1) sc) (b7 (i:=2) (v:=.slice (C m).ao (C m).al (C m).ac) (b7 (i:=1) (v:=.int .i64 (C m).time) (b7 (i:=0) (v:=.int .i64 (C m).number) mP)))
   simp only [List.setIfInBounds_toArray,List.set_cons_zero,List.set_cons_succ] at hR
   have hoth:∀ b,b≠w.heap.size->(((((wr.setCell ⟨w.heap.size,0,none⟩ (.int .i64 (C m).number)).setCell ⟨w.heap.size,1,none⟩ (.int .i64 (C m).time)).setCell ⟨w.heap.size,2,none⟩ (.slice (C m).ao (C m).al (C m).ac)).setCell ⟨w.heap.size,3,none⟩ (.slice (some ⟨sb,0,none⟩) (j+1) sc))).heap[b]? = wr.heap[b]?:=fun b hb=>by
    rw [Below.heap_setCell _ _ _ _ hb,Below.heap_setCell _ _ _ _ hb,Below.heap_setCell _ _ _ _ hb,Below.heap_setCell _ _ _ _ hb]
   have hO4:Only w.heap.size wr (((((wr.setCell ⟨w.heap.size,0,none⟩ (.int .i64 (C m).number)).setCell ⟨w.heap.size,1,none⟩ (.int .i64 (C m).time)).setCell ⟨w.heap.size,2,none⟩ (.slice (C m).ao (C m).al (C m).ac)).setCell ⟨w.heap.size,3,none⟩ (.slice (some ⟨sb,0,none⟩) (j+1) sc))):=((((Only.refl _ wr).setCell (p:=⟨w.heap.size,0,none⟩) (.inl rfl) _).setCell (p:=⟨w.heap.size,1,none⟩) (.inl rfl) _).setCell (p:=⟨w.heap.size,2,none⟩) (.inl rfl) _).setCell (p:=⟨w.heap.size,3,none⟩) (.inl rfl) _
   generalize (((((wr.setCell ⟨w.heap.size,0,none⟩ (.int .i64 (C m).number)).setCell ⟨w.heap.size,1,none⟩ (.int .i64 (C m).time)).setCell ⟨w.heap.size,2,none⟩ (.slice (C m).ao (C m).al (C m).ac)).setCell ⟨w.heap.size,3,none⟩ (.slice (some ⟨sb,0,none⟩) (j+1) sc)))=W4 at hR hoth hO4 ⊢
   obtain ⟨_,⟨h2,_⟩ | ⟨g',mq,cur,e1,_,e2,_⟩⟩:=kR
   ·cases h2
   cases e1
   have q0:=ae (i:=0) hR rfl
   have q1:=ae (i:=1) hR rfl
   have q2:=ae (i:=2) hR rfl
   have q3:=ae (i:=3) hR rfl
   have hgne:g≠w.heap.size:=by omega
   refine ⟨rfl,gv ((C m).cC sb (j+1) sc),?_,sb,sc,cur,rfl,by omega,⟨hO4.os.trans hon1.os,hO4.tape.trans hon1.tape,hO4.output.trans hon1.output,Nat.le_trans hon1.size hO4.size,fun b hb hbg=>(hoth b (by omega)).trans (hon1.block b hb hbg)⟩,(hoth g hgne).trans jF,(hoth sb (by omega)).trans e2,?_⟩
   ·simp [results,Tryz.f132,go_sem,loadVar,gv,bx.cC,q0,q1,q2,q3]
   ·obtain ⟨sb',s1,s2,s3⟩:=hMw.so
    have hse:sb'=sb:=by have:some (⟨sb,0,none⟩:Addr)=some ⟨sb',0,none⟩:=s1;simp at this;exact this.symm
    subst hse
    have hats:(b9 (cv E m) K (E m).bare).atoms=(E m).atoms:=(eZ (cv E m) K (E m).bare).2.2.1
    refine { hMw with so:=⟨sb',s1,Nat.lt_of_lt_of_le s2 hO4.size,fun q b hq=>?_⟩,atoms:=?_ }
    ·rw [World.cell?_of_block (hoth sb' (by omega))];exact s3 q b hq
    ·rw [hats]
     intro hne
     obtain ⟨b,off,h1,h2,h3⟩:=HM.out hne
     refine ⟨b,off,h1,Nat.lt_of_lt_of_le h2 (Nat.le_trans hon1.size hO4.size),fun q hq=>?_⟩
     rw [World.cell?_of_block (hoth b (by omega)),World.cell?_of_block (hon1.block b h2 (HMo.out _ h1))];exact h3 q hq
end Ev
section
open Go.RowKit
set_option maxHeartbeats 400000 in
theorem takeF_end (rb tb off n cap:Nat) (pl:Int) (wd:ByteArray) (w:World) (hr:w.heap[rb]? = some (.cells #[.slice (some ⟨tb,off,none⟩) (n+1) cap] 208 (0,0)))
  (h0:w.cell? ⟨tb,off,none⟩=some (.int .i32 (-1))) (h1:w.cell? ⟨tb,off+1,none⟩=some (.int .i64 pl)) (h2:w.cell? ⟨tb,off+2,none⟩=some (.string wd)) :
  Calls Tryz.prog 154 #[.pointer (some ⟨rb,0,none⟩)] w fun e w'=>e=.returned (.agg #[.int .i32 (-1),.int .i64 pl,.string wd])/\Below w.heap.size w w':=by
 have hc:w.cell? ⟨rb,0,none⟩=some (.slice (some ⟨tb,off,none⟩) (n+1) cap):=ae hr rfl
 have hrl:rb<w.heap.size:=aw hr
 have htl:tb<w.heap.size:=i_ h0
 go_enter Tryz.func154,Tryz.ntmps154
 go_wp2
 refine bodyPost_ret (v:=.agg #[.int .i32 (-1),.int .i64 pl,.string wd]) (by simp [results,Tryz.results154,go_sem]) rfl ⟨rfl,?_⟩
 exact ((Below.refl _ _).alloc (Nat.le_refl _) _).alloc (by simp) _
set_option maxHeartbeats 400000 in
theorem take_go (rb tb off n cap:Nat) (sg pl:Int) (wd:ByteArray) (w:World) (hr:w.heap[rb]? = some (.cells #[.slice (some ⟨tb,off,none⟩) (n+1) cap] 208 (0,0)))
  (h0:w.cell? ⟨tb,off,none⟩=some (.int .i32 sg)) (h1:w.cell? ⟨tb,off+1,none⟩=some (.int .i64 pl)) (h2:w.cell? ⟨tb,off+2,none⟩=some (.string wd)) (hsg:(sg != -1)=true) (cW:n+1<=cap) (_hmax:cap<=maxLen) (hn:1<=n) :
  Calls Tryz.prog 154 #[.pointer (some ⟨rb,0,none⟩)] w fun e w'=>e=.returned (.agg #[.int .i32 sg,.int .i64 pl,.string wd])/\Only rb w w'/\w'.heap[rb]? = some (.cells #[.slice (some ⟨tb,off+3,none⟩) n (cap-1)] 208 (0,0)):=by
 have hc:w.cell? ⟨rb,0,none⟩=some (.slice (some ⟨tb,off,none⟩) (n+1) cap):=ae hr rfl
 have hrl:rb<w.heap.size:=aw hr
 have htl:tb<w.heap.size:=i_ h0
 have hfz:w.frozen? ⟨rb,0,none⟩=false:=Lib.frozen_of_heap hr 0
 unfold maxLen at _hmax
 go_enter Tryz.func154,Tryz.ntmps154
 go_wp2
 refine bodyPost_ret (v:=.agg #[.int .i32 sg,.int .i64 pl,.string wd]) (by simp [results,Tryz.results154,go_sem]) rfl ⟨rfl,?_,?_⟩
 ·exact (((Only.refl rb w).setCell (p:=⟨rb,0,none⟩) (.inl rfl) _).alloc _).alloc _
 ·rw [Lib.alloc_old _ _ _ (by simp [World.setCell];omega),Lib.alloc_old _ _ _ (by simp [World.setCell];omega)]
  simp [World.setCell,Array.getElem?_modify,hr]
theorem ky (rb:Nat) (ts:List Tok) (w:World) (h:gj 208 rb w ts) (he:Ends ts) :
  Calls Tryz.prog 154 #[.pointer (some ⟨rb,0,none⟩)] w fun e w'=>e=.returned (.agg #[.int .i32 (aH ts).1.sign,.int .i64 (aH ts).1.place,.string (aH ts).1.word])/\Only rb w w'/\gj 208 rb w' (aH ts).2:=by
 have hl:=he.take
 obtain ⟨v,hv,ht⟩:=h
 match ts,he,hl,ht with
 | [],⟨f,e,hfe,_⟩,_,_=>exact absurd hfe (by simp)
 | t::r,he,hl,ht =>
  obtain ⟨tb,off,cap,rfl,htb,cW,hmax,h0,h1,h2,hrest⟩:=toks_head ht
  by_cases hs:t.sign = -1
  ·rw [hs] at h0
   refine (takeF_end rb tb off r.length cap t.place t.word w hv h0 h1 h2).mono ?_
   rintro e w' ⟨rfl,hb⟩
   have e1:aH (t::r)=(t,t::r):=by simp [aH,hs]
   rw [e1,hs]
   exact ⟨rfl,Only.aL hb,_,Below.aE hb hv,ht.only (Only.aL hb) (Nat.le_refl _)⟩
  ·have e1:aH (t::r)=(t,r):=by simp [aH,hs]
   have hn:1<=r.length:=by
    obtain ⟨f,e,hfe,hes,_⟩:=he
    cases f with
    | nil=>simp at hfe;exact absurd (hfe.1▸hes) hs
    | cons a f=>simp at hfe;rw [hfe.2];simp
   refine (take_go rb tb off r.length cap t.sign t.place t.word w hv h0 h1 h2 (by simp [hs]) cW hmax hn).mono ?_
   rintro e w' ⟨rfl,ho,hr'⟩
   rw [e1]
   exact ⟨rfl,ho,_,hr',hrest rb w' ho (Nat.le_refl _)⟩
set_option maxHeartbeats 400000 in
theorem expect_yes (rb:Nat) (ts:List Tok) (sg:Int) (why:ByteArray) (w:World) (h:gj 208 rb w ts) (he:Ends ts) (hs:(aH ts).1.sign=sg) :
  Calls Tryz.prog 115 #[.pointer (some ⟨rb,0,none⟩),.int .i32 sg,.string why] w fun e w'=>e=.returned .nilIface/\Only rb w w'/\gj 208 rb w' (aH ts).2:=by
 subst hs
 go_enter Tryz.func115,Tryz.ntmps115
 go_wp2_with fail
 refine (ky rb ts _ h he).mono ?_
 rintro e w1 ⟨rfl,ho,hr⟩
 go_wp2
 go_ret
 exact ⟨rfl,ho.alloc _,hr.alloc _⟩
set_option maxHeartbeats 400000 in
theorem expect_no (rb:Nat) (ts:List Tok) (sg:Int) (why:ByteArray) (w:World) (h:gj 208 rb w ts) (he:Ends ts) (hs:((aH ts).1.sign != sg)=true) :
  Calls Tryz.prog 115 #[.pointer (some ⟨rb,0,none⟩),.int .i32 sg,.string why] w fun e w'=>∃ fa,e=.returned (.iface 201 (.pointer (some fa)))/\Only rb w w':=by
 go_enter Tryz.func115,Tryz.ntmps115
 go_wp2_with fail
 refine (ky rb ts _ h he).mono ?_
 rintro e w1 ⟨rfl,ho,hr⟩
 go_wp2
 go_ret
 exact ⟨_,rfl,(ho.alloc _).alloc _⟩
theorem clone_any (s:ByteArray) (w:World) (hlim:s.size<=281474976710656) :
  Calls Tryz.prog 136 #[.string s] w fun e w'=>e=.returned (.string s)/\Below w.heap.size w w':=by
 go_enter Tryz.func136,Tryz.ntmps136
 go_wp2_with fail
 refine (Tryz.stringslite_Clone s w hlim).mono ?_
 rintro e w1 ⟨rfl,hb⟩
 go_wp2
 go_ret
 exact ⟨rfl,hb⟩
theorem mA (rb:Nat) (ts:List Tok) (sg:Int) (why:ByteArray) (w:World) (h:gj 208 rb w ts) (he:Ends ts) :
  Calls Tryz.prog 115 #[.pointer (some ⟨rb,0,none⟩),.int .i32 sg,.string why] w fun e w'=>Only rb w w'/\((∃ r,bm sg ts=some r/\e=.returned .nilIface/\gj 208 rb w' r)
   \/(bm sg ts=none/\∃ fa,e=.returned (.iface 201 (.pointer (some fa))))):=by
 by_cases hs:(aH ts).1.sign=sg
 ·refine (expect_yes rb ts sg why w h he hs).mono ?_
  rintro e w' ⟨rfl,ho,hr⟩
  exact ⟨ho,.inl ⟨_,by unfold bm;rw [if_pos hs],rfl,hr⟩⟩
 ·refine (expect_no rb ts sg why w h he (by simp [hs])).mono ?_
  rintro e w' ⟨fa,rfl,ho⟩
  exact ⟨ho,.inr ⟨by unfold bm;rw [if_neg hs],fa,rfl⟩⟩
set_option maxHeartbeats 400000 in
theorem word_true (sg pl:Int) (w:World) :
  Calls Tryz.prog 155 #[.agg #[.int .i32 sg,.int .i64 pl,.string vU]] w fun e w'=>∃ v,e=.returned (.tuple #[v,.nilIface])/\aC 143 w.heap.size w' (mk 116 ByteArray.empty 0 0 .nil .nil) v/\Below w.heap.size w w':=by
 unfold vU
 go_enter Tryz.func155,Tryz.ntmps155
 go_wp2
 go_ret2
 exact ⟨_,rfl,lA (Nat.le_succ _) (aB _ _ _ (by simp)) rfl rfl,((Below.refl _ _).alloc (Nat.le_refl _) _).alloc (by simp) _⟩
set_option maxHeartbeats 400000 in
theorem word_long (sg pl:Int) (wd:ByteArray) (w:World) (ht:(wd.toList==[116,114,117,101])=false) (hl:8<wd.size) (hm:wd.size<=maxLen) :
  Calls Tryz.prog 155 #[.agg #[.int .i32 sg,.int .i64 pl,.string wd]] w fun e w'=>∃ fa,e=.returned (.tuple #[.pointer none,.iface 201 (.pointer (some fa))])/\Below w.heap.size w w':=by
 unfold maxLen at hm
 go_enter Tryz.func155,Tryz.ntmps155
 go_wp2
 go_region
 all_goals go_wp2
 all_goals go_ret2
 all_goals exact ⟨_,rfl,by repeat (first | exact Below.refl _ _ | refine Below.drew ?_ | refine Below.al ?_ _)⟩
set_option maxHeartbeats 400000 in
theorem word_name (sg pl:Int) (wd:ByteArray) (w:World) (ht:(wd.toList==[116,114,117,101])=false) (hl:wd.size<=8) :
  Calls Tryz.prog 155 #[.agg #[.int .i32 sg,.int .i64 pl,.string wd]] w fun e w'=>∃ v,e=.returned (.tuple #[v,.nilIface])/\aC 143 w.heap.size w' (mk 97 wd 0 0 .nil .nil) v/\Below w.heap.size w w':=by
 go_enter Tryz.func155,Tryz.ntmps155
 go_wp2_with fail
 refine (clone_any wd _ (by omega)).mono ?_
 rintro e w1 ⟨rfl,hb⟩
 go_wp2
 go_ret2
 have hz:w.heap.size+1<=w1.heap.size:=by have:=hb.size;simpa using this
 refine ⟨_,rfl,lA (by omega) (aB _ _ _ rfl) rfl rfl,?_⟩
 exact (((Below.refl _ _).alloc (Nat.le_refl _) _).trans (hb.mono (by simp))).alloc (by omega) _
structure eh (w:World):Prop where
 syn:∃ te pe,w.cell? ⟨10,0,none⟩=some (.iface te pe)
 rng:∃ te pe,w.cell? ⟨11,0,none⟩=some (.iface te pe)
theorem atoi_any (s:ByteArray) (hs:s.size<=281474976710656) (w:World) (hg:eh w) :
  Calls Tryz.prog 210 #[.string s] w fun e w'=>Below w.heap.size w w'/\((∃ v,Lib.atoiAll s.data.toList=.ok v/\e=.returned (.tuple #[.int .i64 v,.nilIface]))\/((∀ v,Lib.atoiAll s.data.toList≠.ok v)/\∃ v te pe,e=.returned (.tuple #[.int .i64 v,.iface te pe]))):=by
 obtain ⟨⟨t1,p1,h1⟩,⟨t2,p2,h2⟩⟩:=hg
 rcases h:Lib.atoiAll s.data.toList with v | _ | _
 ·refine (Tryz.strconv_Atoi_ok s (by omega) v h w).mono ?_
  rintro e w' ⟨rfl,hw⟩
  refine ⟨?_,.inl ⟨v,rfl,rfl⟩⟩
  rcases hw with rfl | ⟨t,rfl⟩
  ·exact Below.refl _ _
  ·exact Lib.bytesWorld_below w _ t
 ·refine (Tryz.strconv_Atoi_syntax s hs h _ w h1 (.inr ⟨_,_,rfl⟩)).mono ?_
  rintro e w' ⟨n,rfl,_,_,hb⟩
  exact ⟨hb,.inr ⟨fun v hv=>by (cases hv),_,_,_,rfl⟩⟩
 ·refine (Tryz.strconv_Atoi_range s hs h _ w h2 (.inr ⟨_,_,rfl⟩)).mono ?_
  rintro e w' ⟨n,rfl,_,_,hb⟩
  exact ⟨hb,.inr ⟨fun v hv=>by (cases hv),_,_,_,rfl⟩⟩
theorem eh.only {s:Nat} {w w':World} (h:eh w) (ho:Only s w w') (hs:14<=s):eh w':=by
 obtain ⟨⟨t1,p1,h1⟩,⟨t2,p2,h2⟩⟩:=h
 have c:∀ k,k<14->k<w.heap.size->w'.cell? ⟨k,0,none⟩=w.cell? ⟨k,0,none⟩:=fun k hk hl=>World.cell?_of_block (w:=w) (a:=⟨k,0,none⟩) (ho.block k hl (by omega))
 exact ⟨⟨t1,p1,by rw [c 10 (by omega) (i_ h1)];exact h1⟩,⟨t2,p2,by rw [c 11 (by omega) (i_ h2)];exact h2⟩⟩
theorem eh.below {w w':World} (h:eh w) (hb:Below w.heap.size w w'):eh w':=h.only (s:=14) (Only.aL hb) (Nat.le_refl _)
set_option maxHeartbeats 400000 in
theorem number_no (rb:Nat) (ts:List Tok) (w:World) (h:gj 208 rb w ts) (he:Ends ts) (hs:((aH ts).1.sign != 48)=true) :
  Calls Tryz.prog 204 #[.pointer (some ⟨rb,0,none⟩)] w fun e w'=>∃ fa,e=.returned (.tuple #[.int .i64 0,.iface 201 (.pointer (some fa))])/\Only rb w w':=by
 go_enter Tryz.func204,Tryz.ntmps204
 go_wp2_with fail
 refine (ky rb ts _ h he).mono ?_
 rintro e w1 ⟨rfl,ho,hr⟩
 go_wp2_with fail
 go_region
 all_goals go_wp2
 all_goals go_ret2
 all_goals exact ⟨_,rfl,by repeat (first | exact ho | refine Only.drew ?_ | refine Only.alloc ?_ _)⟩
set_option maxHeartbeats 800000 in
theorem number_zero (rb:Nat) (rest:List Tok) (pl:Int) (wd:ByteArray) (w:World)
  (rE:Calls Tryz.prog 154 #[.pointer (some ⟨rb,0,none⟩)] w fun e w'=>e=.returned (.agg #[.int .i32 48,.int .i64 pl,.string wd])/\Only rb w w'/\gj 208 rb w' rest)
  (hm:wd.size<=281474976710656) (hz:0<wd.size) (h1:1<wd.size) (h0:(((wd[0]'hz).toNat:Int)==48)=true) :
  Calls Tryz.prog 204 #[.pointer (some ⟨rb,0,none⟩)] w fun e w'=>Only rb w w'/\∃ fa,e=.returned (.tuple #[.int .i64 0,.iface 201 (.pointer (some fa))]):=by
 go_enter Tryz.func204,Tryz.ntmps204
 go_wp2_with fail
 refine rE.mono ?_
 rintro e w1 ⟨rfl,ho,hr⟩
 go_wp2_with fail
 go_region
 all_goals go_wp2
 all_goals go_ret2
 all_goals exact ⟨by repeat (first | exact ho | refine Only.drew ?_ | refine Only.alloc ?_ _),_,rfl⟩
set_option maxHeartbeats 800000 in
theorem number_conv (rb:Nat) (rest:List Tok) (pl:Int) (wd:ByteArray) (w:World)
  (rE:Calls Tryz.prog 154 #[.pointer (some ⟨rb,0,none⟩)] w fun e w'=>e=.returned (.agg #[.int .i32 48,.int .i64 pl,.string wd])/\Only rb w w'/\gj 208 rb w' rest)
  (hg:eh w) (qx:14<=rb) (hm:wd.size<=281474976710656) (h0:¬ 1<wd.size\/∃ hz:0<wd.size,1<wd.size/\(((wd[0]'hz).toNat:Int)==48)=false) :
  Calls Tryz.prog 204 #[.pointer (some ⟨rb,0,none⟩)] w fun e w'=>Only rb w w'/\((∃ v,okNum (Lib.atoiAll wd.data.toList)=some v/\e=.returned (.tuple #[.int .i64 v,.nilIface])/\gj 208 rb w' rest)\/(okNum (Lib.atoiAll wd.data.toList)=none/\∃ fa,e=.returned (.tuple #[.int .i64 0,.iface 201 (.pointer (some fa))]))):=by
 rcases h0 with h1 | ⟨hz,h1,h0⟩
 all_goals
  go_enter Tryz.func204,Tryz.ntmps204
  go_wp2_with fail
  refine rE.mono ?_
  rintro e w1 ⟨rfl,ho,hr⟩
  go_wp2_with fail
  have hg1:eh (w1.alloc (.cells #[.int .i32 48,.int .i64 pl,.string wd] 260)):=(hg.only ho qx).below ((Below.refl _ _).al _)
  refine (atoi_any wd hm _ hg1).mono ?_
  rintro e w2 ⟨hb,⟨v,hv,rfl⟩ | ⟨hv,v,te,pe,rfl⟩⟩
  ·have jE:Only rb w w2:=(ho.alloc _).tb hb
   have u7:gj 208 rb w2 rest:=(hr.alloc _).below hb
   have hN:Hid (okNum (Lib.atoiAll wd.data.toList)=if 1000000<v then none else some v):=by rw [hv];rfl
   have q1:w2.cell? ⟨w1.heap.size,1,none⟩=some (.int .i64 pl):=by rw [hb.cell (p:=⟨w1.heap.size,1,none⟩) (by simp)];simp
   clear hv hb
   by_cases hgt:1000000<v
   ·go_wp2_with fail
    go_region
    all_goals go_wp2
    all_goals go_ret2
    all_goals exact ⟨by repeat (first | exact jE | refine Only.drew ?_ | refine Only.alloc ?_ _),.inr ⟨by rw [hN.out,if_pos (by omega)],_,rfl⟩⟩
   ·go_wp2_with fail
    go_ret2
    exact ⟨jE,.inl ⟨v,by rw [hN.out,if_neg (by omega)],rfl,u7⟩⟩
  ·have jE:Only rb w w2:=(ho.alloc _).tb hb
   have hN:Hid (okNum (Lib.atoiAll wd.data.toList)=none):=okNum_none hv
   have q1:w2.cell? ⟨w1.heap.size,1,none⟩=some (.int .i64 pl):=by rw [hb.cell (p:=⟨w1.heap.size,1,none⟩) (by simp)];simp
   clear hv hb
   go_wp2_with fail
   go_region
   all_goals go_wp2
   all_goals go_ret2
   all_goals exact ⟨by repeat (first | exact jE | refine Only.drew ?_ | refine Only.alloc ?_ _),.inr ⟨hN.out,_,rfl⟩⟩
theorem number_some (rb:Nat) (ts:List Tok) (w:World) (h:gj 208 rb w ts) (he:Ends ts) (hs:(aH ts).1.sign=48) (hg:eh w) (qx:14<=rb) (hm:(aH ts).1.word.size<=281474976710656) :
  Calls Tryz.prog 204 #[.pointer (some ⟨rb,0,none⟩)] w fun e w'=>Only rb w w'/\((∃ v,vq (aH ts).1.word=some v/\e=.returned (.tuple #[.int .i64 v,.nilIface])/\gj 208 rb w' (aH ts).2)\/(vq (aH ts).1.word=none/\∃ fa,e=.returned (.tuple #[.int .i64 0,.iface 201 (.pointer (some fa))]))):=by
 have rE:=ky rb ts w h he
 rw [hs] at rE
 generalize (aH ts).1.word=wd at *
 generalize (aH ts).1.place=pl at *
 by_cases h1:1<wd.size
 ·have hz:0<wd.size:=by omega
  have hh:=head_get wd hz
  by_cases h0:wd.data.toList.headD 0=48
  ·refine (number_zero rb _ pl wd w rE hm hz h1 ?_).mono ?_
   ·rw [hh] at h0;rw [h0];decide
   ·rintro e w' ⟨ho,hf⟩
    exact ⟨ho,.inr ⟨by unfold vq;rw [if_pos ⟨h1,h0⟩],hf⟩⟩
  ·refine (number_conv rb _ pl wd w rE hg qx hm (.inr ⟨hz,h1,?_⟩)).mono ?_
   ·rw [hh] at h0
    rw [beq_eq_false_iff_ne]
    intro h
    apply h0
    apply UInt8.toNat_inj.1
    show wd[0].toNat=48
    omega
   ·have e1:vq wd=okNum (Lib.atoiAll wd.data.toList):=by unfold vq;rw [if_neg (by intro h;exact h0 h.2)]
    rw [e1]
    exact fun _ _ h=>h
 ·refine (number_conv rb _ pl wd w rE hg qx hm (.inl h1)).mono ?_
  have e1:vq wd=okNum (Lib.atoiAll wd.data.toList):=by unfold vq;rw [if_neg (by intro h;exact h1 h.1)]
  rw [e1]
  exact fun _ _ h=>h
theorem fU (rb:Nat) (ts:List Tok) (w:World) (h:gj 208 rb w ts) (he:Ends ts) (hg:eh w) (qx:14<=rb) :
  Calls Tryz.prog 204 #[.pointer (some ⟨rb,0,none⟩)] w fun e w'=>Only rb w w'/\((∃ v r,p8 ts=some (v,r)/\e=.returned (.tuple #[.int .i64 v,.nilIface])/\gj 208 rb w' r)
   \/(p8 ts=none/\∃ fa,e=.returned (.tuple #[.int .i64 0,.iface 201 (.pointer (some fa))]))):=by
 by_cases hs:(aH ts).1.sign=48
 ·refine (number_some rb ts w h he hs hg qx (by have:=he.word;omega)).mono ?_
  rintro e w' ⟨ho,⟨v,hv,rfl,hr⟩ | ⟨hv,fa,rfl⟩⟩
  ·exact ⟨ho,.inl ⟨v,_,by unfold p8;rw [if_pos hs,hv];rfl,rfl,hr⟩⟩
  ·exact ⟨ho,.inr ⟨by unfold p8;rw [if_pos hs,hv];rfl,fa,rfl⟩⟩
 ·refine (number_no rb ts w h he (by simp [hs])).mono ?_
  rintro e w' ⟨fa,rfl,ho⟩
  exact ⟨ho,.inr ⟨by unfold p8;rw [if_neg hs],fa,rfl⟩⟩
end
namespace Ev
open Go.RowKit Go.Deep
theorem infoStr:(Tryz.prog.info? 9).map (fun i=>(i.zero,i.size,i.bytes))=some (some (.string ⟨#[]⟩),1,16):=by kernel_rfl
def fH (L:List ByteArray):List Value:=L.map Value.string
theorem strsV_len (L:List ByteArray):(fH L).length=L.length:=by simp [fH]
theorem strsV_take (A:List ByteArray) (i:Nat) (h:i<A.length):fH (A.take (i+1))=fH (A.take i)++[.string (A.getD i ByteArray.empty)]:=by
 have e:A.getD i ByteArray.empty=A[i]:=by rw [List.getD_eq_getElem?_getD,List.getElem?_eq_getElem h];rfl
 rw [<- List.take_append_getElem h,e]
 unfold fH
 rw [List.map_append]
 rfl
theorem rQ {w:World} {B:Nat} {v:Value} {A:List ByteArray} (h:w.ownsRow B 9 1 v A.length (fH A)):∃ ao cap,v=.slice ao A.length cap/\A.length<=cap/\eI w ao A/\∀ a,ao=some a->B<=a.block/\∃ cs,w.heap[a.block]? = some (.cells cs 9 (0,0)):=by
 have hl:=h.lt
 have h':=h
 obtain ⟨h1,⟨rfl,h2⟩ | ⟨g,cap,cur,rfl,h3,h4,h5,h6,h7,h8⟩⟩:=h
 ·exact ⟨none,0,by rw [h2],by omega,fun hne=>absurd (List.length_eq_zero_iff.1 h2) hne,fun a ha=>by cases ha⟩
 ·refine ⟨some ⟨g,0,none⟩,cap,rfl,h5,fun _=>⟨g,0,rfl,(hl g rfl).2,fun j hj=>?_⟩,fun a ha=>by cases ha;exact ⟨h3,cur,h4⟩⟩
  rw [Nat.zero_add]
  refine gH h' rfl ?_
  simp [fH,hj,List.getD_eq_getElem?_getD]
set_option maxHeartbeats 2000000 in
theorem copyOf_any (ao:Option Addr) (A:List ByteArray) (cap:Nat) (w:World) (h:eI w ao A) (hA:A.length<=1000) (cW:A.length<=cap) (hs:∀ j,j<A.length->(A.getD j ByteArray.empty).size<=1000) :
  Calls Tryz.prog 129 #[.slice ao A.length cap] w fun e w'=>∃ v,e=.returned v/\w'.ownsRow w.heap.size 9 1 v A.length (fH A)/\Below w.heap.size w w':=by
 have HA:Hid (∀ w',Below w.heap.size w w'->eI w' ao A):=fun w' hb=>h.below hb
 obtain ⟨i0,hi,lr,iU,lu⟩:=info_parts infoStr
 generalize hlen:A.length=n at *
 clear h
 go_enter Tryz.func129,Tryz.ntmps129
 go_wp2_with fail
 go_loopw [8,3] (fun iv v wr=>∃ i:Nat,iv=.int .i64 i/\i<=n/\wr.ownsRow w.heap.size 9 1 v i (fH (A.take i))/\Below w.heap.size w wr) (fun iv _ _=>n-(intOf iv).toNat)
 case atStart=>exact ⟨0,rfl,Nat.zero_le _,World.ownsRow_nil _ _ _ _,Below.refl _ _⟩
 case round =>
  obtain ⟨i,rfl,tP,cE,h_⟩:=hrel
  by_cases qo:i<n
  ·obtain ⟨b,off,rfl,hb,hc⟩:=HA.out wr h_ (by intro e;rw [e] at hlen;simp at hlen;omega)
   have q0:=hc i (by omega)
   have oK:=hs i qo
   have htake:=strsV_take A i (by omega)
   have Ht:Hid (fH (A.take (i+1))=fH (A.take i)++[.string (A.getD i ByteArray.empty)]):=htake
   clear hc hs htake
   generalize A.getD i ByteArray.empty=x at *
   go_wp2_with fail
   refine (clone_any x _ (by omega)).mono ?_
   rintro e w1 ⟨rfl,a_⟩
   have kR:=dw cE (w':=w1) fun k hk=>a_.block k (cE.lt k hk).2
   have lh:=h_.tr a_
   have hws:=lh.size
   go_wp2_with (at_builtin;refine wpList_append_own _ rfl _ _ 31 rfl w.heap.size 9 i0 _ 1 16 Tryz.underlying31 hi lr iU lu rfl (by decide) _ _ _ rfl (kR.alloc _) ⟨w1.heap.size,0,none⟩ 1 1 [.string x] rfl rfl ?c1 ?c2 ?c3 ?c4 ?c5 ?_)
   case c1=>exact cell_one_new w1 _ _
   case c2=>simp [Value.oneCell']
   case c3=>unfold maxLen;omega
   case c4=>omega
   case c5=>simp;omega
   intro v' w2 dm bz _
   have cB:Below w.heap.size w w2:=(lh.al _).grown bz (Nat.le_trans lh.size (by simp)) (fun k e=>(kR.lt k e).1)
   go_wp2_with fail
   go_roundw
   case rel=>exact ⟨i+1,by go_num,by omega,by rw [Ht.out];exact dm,cB⟩
   case measure=>simp only [intOf];omega
  ·obtain rfl:i=n:=by omega
   rw [List.take_of_length_le (by omega)] at cE
   go_wp2_with fail
   go_ret
   exact ⟨_,rfl,cE,h_⟩
theorem qV (ea:Option Addr) (n cap:Nat) (w:World) (cW:n<=cap):Calls Tryz.prog 130 #[.slice ea n cap,.int .i64 0,.int .i64 0] w fun e w'=>e=.returned (.slice ea n cap)/\w'=w:=by
 go_enter Tryz.func130,Tryz.ntmps130
 go_wp2_with fail
 go_ret
 exact ⟨rfl,rfl⟩
structure EvT (w:World) (c:bx):Prop where
 so:∀ a,c.so=some a->∃ cs m,w.heap[a.block]? = some (.cells cs 4 m)
 ao:∀ a,c.ao=some a->∃ cs m,w.heap[a.block]? = some (.cells cs 9 m)
theorem EvT.off {w:World} {c:bx} {g:Nat} {cg:Array Value} {m:Nat×Nat} (h:EvT w c) (hg:w.heap[g]? = some (.cells cg 159 m)):EvOff g c :=
 ⟨fun a ha e=>(by obtain ⟨cs,m,h1⟩:=h.so a ha;rw [e,hg] at h1;cases h1),fun a ha e=>(by obtain ⟨cs,m,h1⟩:=h.ao a ha;rw [e,hg] at h1;cases h1)⟩
structure aY (P:Nat->Prop) (w w':World):Prop where
 os:w'.os=w.os
 tape:w'.tape=w.tape
 output:w'.output=w.output
 size:w.heap.size<=w'.heap.size
 block:∀ b,b<w.heap.size->¬ P b->w'.heap[b]? = w.heap[b]?
theorem aY.trans {P:Nat->Prop} {a b c:World} (h:aY P a b) (k:aY P b c):aY P a c:=⟨k.os.trans h.os,k.tape.trans h.tape,k.output.trans h.output,Nat.le_trans h.size k.size,fun x hx hp=>(k.block x (Nat.lt_of_lt_of_le hx h.size) hp).trans (h.block x hx hp)⟩
theorem aY.aL {P:Nat->Prop} {a b:World} (h:Below a.heap.size a b):aY P a b:=⟨h.os,h.tape,h.output,h.size,fun x hx _=>h.block x hx⟩
theorem aY.kg {P:Nat->Prop} {g:Nat} {a b:World} (h:Only g a b) (hP:∀ x,x=g->P x):aY P a b:=⟨h.os,h.tape,h.output,h.size,fun x hx hp=>h.block x hx fun e=>hp (hP x e)⟩
theorem aY.mono {P Q:Nat->Prop} {a b:World} (h:aY P a b) (hP:∀ x,x<a.heap.size->P x->Q x):aY Q a b:=⟨h.os,h.tape,h.output,h.size,fun x hx hq=>h.block x hx fun e=>hq (hP x hx e)⟩
theorem aY.of_grown {P:Nat->Prop} {row:Option Nat} {a b:World} (h:a.grownBy b row) (hP:∀ x,row=some x->P x):aY P a b:=⟨h.os,h.tape,h.output,h.size,fun x hx hp=>h.block x hx fun e=>hp (hP x e.symm)⟩
theorem cZ.spare {P:Nat->Prop} {w w':World} {c:bx} {e:Pe} (h:cZ w c e) (hs:aY P w w') (h1:∀ a,c.so=some a->¬ P a.block) (h2:∀ a,c.ao=some a->¬ P a.block):cZ w' c e:=by
 obtain ⟨sb,s1,s2,s3⟩:=h.so
 refine { h with so:=⟨sb,s1,Nat.lt_of_lt_of_le s2 hs.size,fun j b hj=>?_⟩,atoms:=fun hne=>?_ }
 ·rw [World.cell?_of_block (hs.block sb s2 (h1 _ s1))];exact s3 j b hj
 ·obtain ⟨b,off,a1,a2,a3⟩:=h.atoms hne
  exact ⟨b,off,a1,Nat.lt_of_lt_of_le a2 hs.size,fun j hj=>by rw [World.cell?_of_block (hs.block b a2 (h2 _ a1))];exact a3 j hj⟩
theorem EvT.spare {P:Nat->Prop} {w w':World} {c:bx} (h:EvT w c) (hs:aY P w w') (h1:∀ a,c.so=some a->¬ P a.block) (h2:∀ a,c.ao=some a->¬ P a.block):EvT w' c :=
 ⟨fun a ha=>by obtain ⟨cs,m,k⟩:=h.so a ha;exact ⟨cs,m,by rw [hs.block _ (aw k) (h1 a ha)];exact k⟩,fun a ha=>by obtain ⟨cs,m,k⟩:=h.ao a ha;exact ⟨cs,m,by rw [hs.block _ (aw k) (h2 a ha)];exact k⟩⟩
theorem eB.spare {P:Nat->Prop} {w w':World} {no:Option Addr} {K:List Key} (h:eB w no K) (hs:aY P w w') (h1:∀ a,no=some a->¬ P a.block):eB w' no K:=fun hne=>by
 obtain ⟨nb,a1,a2,a3⟩:=h hne
 have hc:∀ q,w'.cell? ⟨nb,q,none⟩=w.cell? ⟨nb,q,none⟩:=fun q=>World.cell?_of_block (hs.block nb a2 (h1 _ a1))
 exact ⟨nb,a1,Nat.lt_of_lt_of_le a2 hs.size,fun i k hk=>by simp only [hc];exact a3 i k hk⟩
theorem oM:(Tryz.prog.info? 159).map (fun i=>(i.zero,i.size,i.bytes))=some (some (.agg #[.int .i64 0,.int .i64 0,.slice none 0 0,.slice none 0 0]),4,64):=by kernel_rfl
theorem mL (C:List bx) (c:bx):dk (C++[c])=dk C++bf c:=by simp [dk]
theorem evOne (c:bx):∀ u∈bf c,u.oneCell'=true:=by
 intro u hu
 simp [bf,bx.av,bx.sv] at hu
 rcases hu with rfl | rfl | rfl | rfl<;>rfl
theorem ei (w:World) (c:bx) (t:TypeId):∀ j u,(bf c)[j]? = some u->(w.alloc (.cells #[.int .i64 c.number,.int .i64 c.time,.slice c.ao c.al c.ac,.slice c.so c.sl c.sc] t)).cell? ((⟨w.heap.size,0,none⟩:Addr).add j)=some u:=by
 intro j u hj
 have hh:=aB w (.cells #[.int .i64 c.number,.int .i64 c.time,.slice c.ao c.al c.ac,.slice c.so c.sl c.sc] t (0,0)) _ rfl
 have e1:(⟨w.heap.size,0,none⟩:Addr).add j=⟨w.heap.size,j,none⟩:=by simp [Addr.add];omega
 rw [e1]
 refine ae hh ?_
 rcases j with _ | _ | _ | _ | j
 ·exact hj
 ·exact hj
 ·exact hj
 ·exact hj
 ·simp [bf] at hj
def eQ (C:List bx):Int:=match C.getLast? with
 | some c=>c.number+1
 | none=>1
noncomputable def tA:Code:=Tryz.f87.body.getD .skip
noncomputable def opsT5:Array Oper:=match tA with
 | .seq _ (.seq _ (.seq _ (.seq (.region _ x _) _)))=>x
 | _=>#[]
noncomputable def opsT6:Array Oper:=match tA with
 | .seq _ (.seq _ (.seq _ (.seq _ (.seq (.region _ x _) _))))=>x
 | _=>#[]
set_option maxRecDepth 100000 in
set_option maxHeartbeats 8000000 in
theorem region5_any (Q:Exit->Act->World->Prop) (hQ:∀ c a d v w,Q (.panic c) (Act.put a d v) w->Q (.panic c) a w) (aj nx:Nat) (ai:Int) (rm nvv:Value) (ea:Option Addr) (az:Nat) (pv:Value) (C:List bx) (num time:Int) (eJ:Option Addr) (kQ fc:Nat) (W:World) (x2 x3 x4 x5 x6 x8 x9 kX lD lF lG lH lI lJ lK lM lN lO lQ lR lU lV lW lX nk nt nu nw u31 u32 ki jH jI jJ jK jL jM jN u41 u42 u43 u44 u45 u46 u47 u48 u49 u50 u51 u52 u53:Value)
  (hw:W.heap[aj]? = some (.cells #[.int .i64 ai,rm,nvv,.slice ea C.length az,pv] 153 (0,0))) (hE:bY W (.slice ea C.length az) C) (hn:C.length<=1000) (cW:C.length<=az) (ht:0<=time/\time<=1000000000000) (hr:0<=ai/\ai<=1000000000) (hold:nj (time-ai) C=0)
  (nh:W.heap[nx]? = some (.cells #[.int .i64 num,.int .i64 time,.slice eJ kQ fc,.slice none 0 0] 159 (0,0))) (hnxe:(Value.slice ea C.length az).ownBlock≠some nx)
  (hK:∀ (nT:Value) (W':World) (v41:Value),W'.heap[aj]? = some (.cells #[.int .i64 ai,rm,nvv,nT,pv] 153 (0,0))->bY W' nT (C++[(⟨num,time,eJ,kQ,fc,none,0,0⟩:bx)])->aY (fun b=>b=aj\/(Value.slice ea C.length az).ownBlock=some b) W W'->(∀ b,nT.ownBlock=some b->(Value.slice ea C.length az).ownBlock=some b\/W.heap.size<=b)->
   Q .normal ⟨#[(.pointer (some ⟨aj,0,none⟩)),(.int .i64 time),x2,x3,x4,x5,x6,(.pointer (some ⟨nx,0,none⟩)),x8,x9,kX,lD,lF,lG,lH,lI,lJ,lK,lM,lN,lO,lQ,lR,lU,lV,lW,lX,nk,nt,nu,nw,(.pointer (some ⟨aj,0,none⟩)),(.pointer (some ⟨aj,0,none⟩)),(.pointer (some ⟨aj,0,none⟩)),(.pointer (some ⟨aj,3,none⟩)),(.slice ea C.length az),(.pointer (some ⟨aj,0,none⟩)),(.int .i64 time),(.int .i64 0),(.slice ea C.length az),(.agg #[.int .i64 num,.int .i64 time,.slice eJ kQ fc,.slice none 0 0]),v41,nT,(.pointer (some ⟨aj,0,none⟩)),(.pointer (some ⟨aj,3,none⟩)),u45,u46,u47,u48,u49,u50,u51,u52,u53],[]⟩ W') :
  (Code.region 5 opsT5 true).wp Tryz.prog Q ⟨#[(.pointer (some ⟨aj,0,none⟩)),(.int .i64 time),x2,x3,x4,x5,x6,(.pointer (some ⟨nx,0,none⟩)),x8,x9,kX,lD,lF,lG,lH,lI,lJ,lK,lM,lN,lO,lQ,lR,lU,lV,lW,lX,nk,nt,nu,nw,u31,u32,ki,jH,jI,jJ,jK,jL,jM,jN,u41,u42,u43,u44,u45,u46,u47,u48,u49,u50,u51,u52,u53],[]⟩ W:=by
 have cz:=aw hw
 have hnl:=aw nh
 obtain ⟨i0,hi,lr,iU,lu⟩:=info_parts oM
 have HO:Hid (∀ w',Below W.heap.size W w'->Calls Tryz.prog 131 #[.pointer (some ⟨aj,0,none⟩),.int .i64 time] w' fun e w''=>e=.returned (.int .i64 0)/\Below w'.heap.size w' w''):=fun w' hb=>by
  have:=old_any aj ai rm nvv (.slice ea C.length az) pv C time w' (hb.aE hw) (hE.below hb) (by omega) ht hr
  rw [hold] at this
  exact this
 have kj:Hid (∀ w',Below W.heap.size W w'->(fun w'=>w'.cell? ⟨aj,3,none⟩=some (.slice ea C.length az)/\w'.cell? ⟨nx,0,none⟩=some (.int .i64 num)/\w'.cell? ⟨nx,1,none⟩=some (.int .i64 time)/\w'.cell? ⟨nx,2,none⟩=some (.slice eJ kQ fc)/\w'.cell? ⟨nx,3,none⟩=some (.slice none 0 0)) w'):=fun w' hb=>⟨ae (hb.aE hw) rfl,ae (hb.aE nh) rfl,ae (hb.aE nh) rfl,ae (hb.aE nh) rfl,ae (hb.aE nh) rfl⟩
 have hZ:=kj.out _ (Below.refl _ W).drew
 have vP:∀ (V:World) (sl:Nat),Below W.heap.size W V->(∀ j u,(bf (⟨num,time,eJ,kQ,fc,none,0,0⟩:bx))[j]? = some u->V.cell? ((⟨sl,0,none⟩:Addr).add j)=some u)->
   bh Tryz.prog .any opsT5 Q (fun w'=>w'.cell? ⟨aj,3,none⟩=some (.slice ea C.length az)/\w'.cell? ⟨nx,0,none⟩=some (.int .i64 num)/\w'.cell? ⟨nx,1,none⟩=some (.int .i64 time)/\w'.cell? ⟨nx,2,none⟩=some (.slice eJ kQ fc)/\w'.cell? ⟨nx,3,none⟩=some (.slice none 0 0)) 14 4 #[true,true,true,true,true,true,true,true,true,true,true,false,false,false,false] ⟨#[(.pointer (some ⟨aj,0,none⟩)),(.int .i64 time),x2,x3,x4,x5,x6,(.pointer (some ⟨nx,0,none⟩)),x8,x9,kX,lD,lF,lG,lH,lI,lJ,lK,lM,lN,lO,lQ,lR,lU,lV,lW,lX,nk,nt,nu,nw,(.pointer (some ⟨aj,0,none⟩)),(.pointer (some ⟨aj,0,none⟩)),(.pointer (some ⟨aj,0,none⟩)),(.pointer (some ⟨aj,3,none⟩)),(.slice ea C.length az),(.pointer (some ⟨aj,0,none⟩)),(.int .i64 time),(.int .i64 0),(.slice ea C.length az),(.agg #[.int .i64 num,.int .i64 time,.slice eJ kQ fc,.slice none 0 0]),(.slice (some ⟨sl,0,none⟩) 1 1),u42,u43,u44,u45,u46,u47,u48,u49,u50,u51,u52,u53],[]⟩ V:=by
  intro V sl hbV hcell
  have hwV:=hbV.aE hw
  have hnV:=hbV.aE nh
  have hEV:=hE.below hbV
  simp only [opsT5,tA,Tryz.f87,Option.getD_some]
  refine bh.one (i:=11) (by decide +kernel) rfl (by rfl) (wp_append_own (.tmp 39) (.tmp 41) 146 rfl 0 159 i0 _ 4 64 Tryz.underlying146 hi lr iU lu rfl (by decide) (.slice ea C.length az) C.length (dk C) rfl hEV ⟨sl,0,none⟩ 1 1 (bf (⟨num,time,eJ,kQ,fc,none,0,0⟩:bx)) rfl rfl hcell (evOne _) (by unfold maxLen;omega) (by omega) (Nat.zero_le _) ?_)
  intro v' w2 dm bz hor
  obtain ⟨g2,c2,rfl⟩:=ownsRow_succ dm
  have hneV:∀ b,(Value.slice ea C.length az).ownBlock=some b->∃ cs,V.heap[b]? = some (.cells cs 159 (0,0)):=fun b hb=>dG hEV hb
  have hwt2:w2.heap[aj]? = some (.cells #[.int .i64 ai,rm,nvv,.slice ea C.length az,pv] 153 (0,0)):=by
   rw [bz.block aj (aw hwV) (fun e=>by obtain ⟨cs,h1⟩:=hneV aj e.symm;rw [hwV] at h1;cases h1)];exact hwV
  have r_:w2.cell? ⟨aj,3,none⟩=some (.slice ea C.length az):=ae hwt2 rfl
  have hf3:w2.frozen? ⟨aj,3,none⟩=false:=Lib.frozen_of_heap hwt2 _
  have hnx2:w2.heap[nx]? = some (.cells #[.int .i64 num,.int .i64 time,.slice eJ kQ fc,.slice none 0 0] 159 (0,0)):=by
   rw [bz.block nx (aw hnV) (fun e=>hnxe e.symm)];exact hnV
  have hS2:(fun w'=>w'.cell? ⟨aj,3,none⟩=some (.slice ea C.length az)/\w'.cell? ⟨nx,0,none⟩=some (.int .i64 num)/\w'.cell? ⟨nx,1,none⟩=some (.int .i64 time)/\w'.cell? ⟨nx,2,none⟩=some (.slice eJ kQ fc)/\w'.cell? ⟨nx,3,none⟩=some (.slice none 0 0)) w2:=⟨r_,ae hnx2 rfl,ae hnx2 rfl,ae hnx2 rfl,ae hnx2 rfl⟩
  refine ⟨fun _=>hS2,?_⟩
  try walk_nrm
  refine bh.op (i:=12) (by decide +kernel) rfl (by rfl) (fun K' hK'=>?_)
  unfold Oper.wp
  go_simp
  refine hK' _ _ ⟨fun _=>hS2,?_⟩
  clear hK' K'
  try walk_nrm
  refine bh.op (i:=13) (by decide +kernel) rfl (by rfl) (fun K' hK'=>?_)
  unfold Oper.wp
  go_simp
  refine hK' _ _ ⟨fun _=>hS2,?_⟩
  clear hK' K'
  try walk_nrm
  refine bh.op (i:=14) (by decide +kernel) rfl (by rfl) (fun K' hK'=>?_)
  unfold Oper.wp
  go_simp
  refine hK' _ _ ⟨fun x=>absurd rfl x,?_⟩
  clear hK' K'
  refine bh.done (by decide +kernel) ?_ _
  try walk_nrm
  have hg2:g2≠aj:=by
   rintro rfl
   obtain ⟨_,⟨h2,_⟩ | ⟨g',mq,cur,e1,_,e2,_⟩⟩:=dm
   ·cases h2
   ·cases e1;rw [hwt2] at e2;cases e2
  refine hK (.slice (some ⟨g2,0,none⟩) (C.length+1) c2) _ _ (b7 (i:=3) hwt2) ?_ ?_ ?_
  ·show World.ownsRow _ 0 159 4 _ _ _
   have el:(C++[(⟨num,time,eJ,kQ,fc,none,0,0⟩:bx)]).length=C.length+1:=by simp
   rw [el,mL]
   exact dw dm fun b hbb=>Below.heap_setCell _ _ _ _ (by cases hbb;exact hg2)
  ·have s1:aY (fun b=>b=aj\/(Value.slice ea C.length az).ownBlock=some b) W w2:=(aY.aL hbV).trans (aY.of_grown bz (fun x hx=>.inr hx))
   exact s1.trans (aY.kg ((Only.refl aj w2).setCell (p:=⟨aj,3,none⟩) (.inl rfl) _) (fun x hx=>.inl hx))
  ·intro b hb
   rcases hor with e | e
   ·exact .inl (e▸hb)
   ·rw [e] at hb;cases hb;exact .inr hbV.size
 simp only [opsT5,tA,Tryz.f87,Option.getD_some] at vP ⊢
 refine bh.begin (S:=(fun w'=>w'.cell? ⟨aj,3,none⟩=some (.slice ea C.length az)/\w'.cell? ⟨nx,0,none⟩=some (.int .i64 num)/\w'.cell? ⟨nx,1,none⟩=some (.int .i64 time)/\w'.cell? ⟨nx,2,none⟩=some (.slice eJ kQ fc)/\w'.cell? ⟨nx,3,none⟩=some (.slice none 0 0))) (fin:=14) (by kernel_rfl) ?_
 simp only [List.size_toArray,List.length_cons,List.length_nil,Nat.reduceAdd,Nat.zero_add]
 refine bh.take 0 (v:=?vq0) rfl (by decide +kernel) (by decide +kernel) (by decide +kernel) (by decide +kernel) (fun c a w h=>hQ c a _ _ w h) (by rfl) (fun w' hS=>Go.Conc.run_eq_of ?rq0) hZ ?_
 case rq0 =>
  intro K' hK'
  obtain ⟨y1,y2,y3,y4,y5⟩:=hS
  go_simp
  exact hK'
 try walk_nrm
 refine bh.take 1 (v:=?vq1) rfl (by decide +kernel) (by decide +kernel) (by decide +kernel) (by decide +kernel) (fun c a w h=>hQ c a _ _ w h) (by rfl) (fun w' hS=>Go.Conc.run_eq_of ?rq1) hZ ?_
 case rq1 =>
  intro K' hK'
  obtain ⟨y1,y2,y3,y4,y5⟩:=hS
  go_simp
  exact hK'
 try walk_nrm
 refine bh.take 2 (v:=?vq2) rfl (by decide +kernel) (by decide +kernel) (by decide +kernel) (by decide +kernel) (fun c a w h=>hQ c a _ _ w h) (by rfl) (fun w' hS=>Go.Conc.run_eq_of ?rq2) hZ ?_
 case rq2 =>
  intro K' hK'
  obtain ⟨y1,y2,y3,y4,y5⟩:=hS
  go_simp
  exact hK'
 try walk_nrm
 refine bh.take 3 (v:=?vq3) rfl (by decide +kernel) (by decide +kernel) (by decide +kernel) (by decide +kernel) (fun c a w h=>hQ c a _ _ w h) (by rfl) (fun w' hS=>Go.Conc.run_eq_of ?rq3) hZ ?_
 case rq3 =>
  intro K' hK'
  obtain ⟨y1,y2,y3,y4,y5⟩:=hS
  go_simp
  exact hK'
 try walk_nrm
 refine bh.take 4 (v:=?vq4) rfl (by decide +kernel) (by decide +kernel) (by decide +kernel) (by decide +kernel) (fun c a w h=>hQ c a _ _ w h) (by rfl) (fun w' hS=>Go.Conc.run_eq_of ?rq4) hZ ?_
 case rq4 =>
  intro K' hK'
  obtain ⟨y1,y2,y3,y4,y5⟩:=hS
  go_simp
  exact hK'
 try walk_nrm
 refine bh.take 5 (v:=?vq5) rfl (by decide +kernel) (by decide +kernel) (by decide +kernel) (by decide +kernel) (fun c a w h=>hQ c a _ _ w h) (by rfl) (fun w' hS=>Go.Conc.run_eq_of ?rq5) hZ ?_
 case rq5 =>
  intro K' hK'
  obtain ⟨y1,y2,y3,y4,y5⟩:=hS
  go_simp
  exact hK'
 try walk_nrm
 refine bh.take 6 (v:=?vq6) rfl (by decide +kernel) (by decide +kernel) (by decide +kernel) (by decide +kernel) (fun c a w h=>hQ c a _ _ w h) (by rfl) (fun w' hS=>Go.Conc.run_eq_of ?rq6) hZ ?_
 case rq6 =>
  intro K' hK'
  obtain ⟨y1,y2,y3,y4,y5⟩:=hS
  go_simp
  exact hK'
 try walk_nrm
 refine bh.take 9 (v:=?vq9) rfl (by decide +kernel) (by decide +kernel) (by decide +kernel) (by decide +kernel) (fun c a w h=>hQ c a _ _ w h) (by rfl) (fun w' hS=>Go.Conc.run_eq_of ?rq9) hZ ?_
 case rq9 =>
  intro K' hK'
  obtain ⟨y1,y2,y3,y4,y5⟩:=hS
  go_simp
  exact hK'
 try walk_nrm
 refine bh.two (i:=7) (j:=10) (by decide +kernel) rfl (by rfl) rfl (by rfl) (fun K' hK'=>?_) (fun K' hK'=>?_)
 ·unfold Oper.wp
  rw [Go.Conc.run_call_body (f:=131) (args:=#[.tmp 36,.tmp 37]) (ats:=#[232,3]) rfl Tryz.func131 (by decide) rfl]
  simp only [Oper.upon,List.map_toArray,List.map_cons,List.map_nil]
  change Calls Tryz.prog 131 #[.pointer (some ⟨aj,0,none⟩),.int .i64 time] W.drew _
  refine (HO.out W.drew (Below.refl W.heap.size W).drew).mono ?_
  rintro e w1 ⟨rfl,a_⟩
  replace a_:Below W.heap.size W w1:=((Below.refl W.heap.size W).drew).trans (a_.mono ((Below.refl W.heap.size W).drew).size)
  refine hK' _ _ ⟨fun _=>kj.out _ a_,?_⟩
  clear hK' K'
  try walk_nrm
  refine bh.two (i:=8) (j:=10) (by decide +kernel) rfl (by rfl) rfl (by rfl) (fun K' hK'=>?_) (fun K' hK'=>?_)
  ·unfold Oper.wp
   rw [Go.Conc.run_call_body (f:=130) (args:=#[.tmp 35,.const (.int .i64 0),.tmp 38]) (ats:=#[146,3,3]) rfl Tryz.func130 (by decide) rfl]
   simp only [Oper.upon,List.map_toArray,List.map_cons,List.map_nil]
   change Calls Tryz.prog 130 #[.slice ea C.length az,.int .i64 0,.int .i64 0] w1 _
   refine (qV ea C.length az w1 cW).mono ?_
   rintro e wd ⟨rfl,hwd⟩
   have hwd:=hwd.symm
   subst hwd
   refine hK' _ _ ⟨fun _=>kj.out _ (a_),?_⟩
   clear hK' K'
   try walk_nrm
   refine bh.op (i:=10) (by decide +kernel) rfl (by rfl) (fun K' hK'=>?_)
   unfold Oper.wp
   go_simp
   refine hK' _ _ ⟨fun _=>kj.out _ ((a_).al _),?_⟩
   clear hK' K'
   try walk_nrm
   exact vP _ w1.heap.size (a_.al _) (ei w1 (⟨num,time,eJ,kQ,fc,none,0,0⟩:bx) 159)
  ·unfold Oper.wp
   go_simp
   refine hK' _ _ ⟨fun _=>kj.out _ ((a_).al _),?_⟩
   clear hK' K'
   try walk_nrm
   refine bh.op (i:=8) (by decide +kernel) rfl (by rfl) (fun K' hK'=>?_)
   unfold Oper.wp
   rw [Go.Conc.run_call_body (f:=130) (args:=#[.tmp 35,.const (.int .i64 0),.tmp 38]) (ats:=#[146,3,3]) rfl Tryz.func130 (by decide) rfl]
   simp only [Oper.upon,List.map_toArray,List.map_cons,List.map_nil]
   change Calls Tryz.prog 130 #[.slice ea C.length az,.int .i64 0,.int .i64 0] (w1.alloc (.cells #[.int .i64 num,.int .i64 time,.slice eJ kQ fc,.slice none 0 0] 159)) _
   refine (qV ea C.length az (w1.alloc (.cells #[.int .i64 num,.int .i64 time,.slice eJ kQ fc,.slice none 0 0] 159)) cW).mono ?_
   rintro e wd ⟨rfl,hwd⟩
   have hwd:=hwd.symm
   subst hwd
   refine hK' _ _ ⟨fun _=>kj.out _ (a_.al _),?_⟩
   clear hK' K'
   try walk_nrm
   exact vP _ w1.heap.size (a_.al _) (ei w1 (⟨num,time,eJ,kQ,fc,none,0,0⟩:bx) 159)
 ·unfold Oper.wp
  go_simp
  refine hK' _ _ ⟨fun _=>kj.out _ (((Below.refl W.heap.size W).drew).al _),?_⟩
  clear hK' K'
  try walk_nrm
  refine bh.op (i:=7) (by decide +kernel) rfl (by rfl) (fun K' hK'=>?_)
  have hbA:Below W.heap.size W (W.drew.alloc (.cells #[.int .i64 num,.int .i64 time,.slice eJ kQ fc,.slice none 0 0] 159)):=((Below.refl _ W).drew.al _)
  unfold Oper.wp
  rw [Go.Conc.run_call_body (f:=131) (args:=#[.tmp 36,.tmp 37]) (ats:=#[232,3]) rfl Tryz.func131 (by decide) rfl]
  simp only [Oper.upon,List.map_toArray,List.map_cons,List.map_nil]
  change Calls Tryz.prog 131 #[.pointer (some ⟨aj,0,none⟩),.int .i64 time] (W.drew.alloc (.cells #[.int .i64 num,.int .i64 time,.slice eJ kQ fc,.slice none 0 0] 159)) _
  refine (HO.out (W.drew.alloc (.cells #[.int .i64 num,.int .i64 time,.slice eJ kQ fc,.slice none 0 0] 159)) hbA).mono ?_
  rintro e w1 ⟨rfl,a_⟩
  have hbB:=a_
  replace a_:Below W.heap.size W w1:=(hbA).trans (a_.mono (hbA).size)
  refine hK' _ _ ⟨fun _=>kj.out _ a_,?_⟩
  clear hK' K'
  try walk_nrm
  refine bh.op (i:=8) (by decide +kernel) rfl (by rfl) (fun K' hK'=>?_)
  unfold Oper.wp
  rw [Go.Conc.run_call_body (f:=130) (args:=#[.tmp 35,.const (.int .i64 0),.tmp 38]) (ats:=#[146,3,3]) rfl Tryz.func130 (by decide) rfl]
  simp only [Oper.upon,List.map_toArray,List.map_cons,List.map_nil]
  change Calls Tryz.prog 130 #[.slice ea C.length az,.int .i64 0,.int .i64 0] w1 _
  refine (qV ea C.length az w1 cW).mono ?_
  rintro e wd ⟨rfl,hwd⟩
  have hwd:=hwd.symm
  subst hwd
  refine hK' _ _ ⟨fun _=>kj.out _ (a_),?_⟩
  clear hK' K'
  try walk_nrm
  have hsl:W.heap.size<(W.drew.alloc (.cells #[.int .i64 num,.int .i64 time,.slice eJ kQ fc,.slice none 0 0] 159)).heap.size:=aw (aB W.drew (.cells #[.int .i64 num,.int .i64 time,.slice eJ kQ fc,.slice none 0 0] 159) W.heap.size rfl)
  refine vP _ W.heap.size a_ (fun j u hj=>?_)
  have h1:=ei W.drew (⟨num,time,eJ,kQ,fc,none,0,0⟩:bx) 159 j u hj
  have e1:(⟨W.heap.size,0,none⟩:Addr).add j=⟨W.heap.size,j,none⟩:=by simp [Addr.add];omega
  have e2:(⟨W.drew.heap.size,0,none⟩:Addr).add j=⟨W.heap.size,j,none⟩:=e1
  rw [e2] at h1
  rw [e1,hbB.cell (p:=⟨W.heap.size,j,none⟩) hsl]
  exact h1
end Ev
end Go.Proofs.YtpbbmagjhkakgaaGreatDoor
