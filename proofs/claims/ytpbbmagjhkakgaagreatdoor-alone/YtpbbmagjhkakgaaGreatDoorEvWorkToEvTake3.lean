import Derived.Test.YtpbbmagjhkakgaaGreatDoorEvOnceToEvSays
import Derived.Test.YtpbbmagjhkakgaaGreatDoorPureToLfTape
import Derived.Test.YtpbbmagjhkakgaaGreatDoorShelfToExpect
namespace Go.Proofs.YtpbbmagjhkakgaaGreatDoor.Ev
open Go.RowKit Go.Deep
theorem wp_append_own {P:Program} {o:Oper} {a:Act} {w:World} {K:Act->World->Prop} {Q:Exit->Act->World->Prop} (s x:Operand) (t:TypeId) (aN:o.op=Op.call { callee:=Callee.builtin Builtin.append,args:=#[s,x],argTypes:=#[t,t] })
  (base:Nat) (e:TypeId) (i:TypeInfo) (z:Value) (size bytes:Nat) (h1:P.underlying t=some (.slice e)) (h2:P.info? e=some i) (h3:i.zero=some z) (h4:i.size=size) (h5:i.bytes=bytes) (h6:z.cells.size=size) (h7:0<size)
  (v:Value) (n:Nat) (xs:List Value) (hs:a.eval s=v) (cE:w.ownsRow base e size v n xs) (ad:Addr) (m c:Nat) (news:List Value) (hx:a.eval x=.slice (some ad) m c) (hn:news.length=m*size) (hc:∀ j u,news[j]? = some u->w.cell? (ad.add j)=some u) (h1c:∀ u∈news,u.oneCell'=true)
  (b1:n+m<=maxLen) (b2:(n+m)*bytes<=140737488355328) (hb:base<=w.heap.size)
  (hK:∀ v' w',w'.ownsRow base e size v' (n+m) (xs++news)->w.grownBy w' v.ownBlock->(v'.ownBlock=v.ownBlock\/v'.ownBlock=some w.heap.size)->K (a.put o.dst v') w'):Oper.wp P o a w K Q:=by
 obtain ⟨v',w',dQ,r1,r2,_,r3⟩:=run_append_own_at (P:=P) w base t o.type e i z size bytes h1 h2 h3 h4 h5 h6 h7 v n xs cE ad m c news hn hc h1c b1 b2 hb
 unfold Oper.wp
 simp [execOp,aN,resolve,invoke,builtin,hs,hx,dQ,Result.andThen]
 exact hK v' w' r1 r2 r3
structure EvOff (g:Nat) (c:bx):Prop where
 so:∀ a,c.so=some a->a.block≠g
 ao:∀ a,c.ao=some a->a.block≠g
theorem cZ.only {g:Nat} {w w':World} {c:bx} {e:Pe} (h:cZ w c e) (ho:EvOff g c) (hb:Only g w w'):cZ w' c e:=by
 obtain ⟨sb,s1,s2,s3⟩:=h.so
 have hsb:sb≠g:=ho.so _ s1
 refine { h with so:=⟨sb,s1,Nat.lt_of_lt_of_le s2 hb.size,fun j b hj=>?_⟩,atoms:=fun hne=>?_ }
 ·rw [World.cell?_of_block (hb.block sb s2 hsb)];exact s3 j b hj
 ·obtain ⟨b,off,h1,h2,h3⟩:=h.atoms hne
  exact ⟨b,off,h1,Nat.lt_of_lt_of_le h2 hb.size,fun j hj=>by rw [World.cell?_of_block (hb.block b h2 (ho.ao _ h1))];exact h3 j hj⟩
def eB (w:World) (no:Option Addr) (K:List Key):Prop:=K≠[]->∃ nb,no=some ⟨nb,0,none⟩/\nb<w.heap.size/\∀ (i:Nat) (k:Key),K[i]? = some k->w.cell? ⟨nb,i*6,none⟩=some (.int .i32 k.op)/\w.cell? ⟨nb,i*6+1,none⟩=some (.string k.name)/\w.cell? ⟨nb,i*6+2,none⟩=some (.int .i64 k.lo)/\w.cell? ⟨nb,i*6+3,none⟩=some (.int .i64 k.hi)/\w.cell? ⟨nb,i*6+4,none⟩=some (.int .i64 k.l)/\w.cell? ⟨nb,i*6+5,none⟩=some (.int .i64 k.r)
theorem infoBool:(Tryz.prog.info? 4).map (fun i=>(i.zero,i.size,i.bytes))=some (some (.bool false),1,1):=by kernel_rfl
def uv (L:List Bool):List Value:=L.map Value.bool
structure qh (w:World) (c:bx) (e:Pe):Prop where
 number:c.number=e.number
 time:c.time=e.time
 low : -1000000000000<=e.time/\e.time<=1000000000000
 al:c.al=e.atoms.length
 alen:e.atoms.length<=1000000
 atoms:eI w c.ao e.atoms
theorem qh.only {g:Nat} {w w':World} {c:bx} {e:Pe} (h:qh w c e) (ho:∀ a,c.ao=some a->a.block≠g) (hb:Only g w w'):qh w' c e :=
 ⟨h.number,h.time,h.low,h.al,h.alen,fun hne=>by
  obtain ⟨b,off,h1,h2,h3⟩:=h.atoms hne
  exact ⟨b,off,h1,Nat.lt_of_lt_of_le h2 hb.size,fun j hj=>by rw [World.cell?_of_block (hb.block b h2 (ho _ h1))];exact h3 j hj⟩⟩
def bx.cC (c:bx) (sb sl sc:Nat):bx:={ c with so:=some ⟨sb,0,none⟩,sl:=sl,sc:=sc }
theorem bits_cell {w:World} {B sb sc:Nat} {L:List Bool} (h:w.ownsRow B 4 1 (.slice (some ⟨sb,0,none⟩) L.length sc) L.length (uv L)):∀ j b,L[j]? = some b->w.cell? ⟨sb,j,none⟩=some (.bool b):=fun j b hj =>
 gH h rfl (by simp [uv,hj])
theorem qh.with {w:World} {c:bx} {e:Pe} {B sb sc:Nat} (h:qh w c e) {L:List Bool} (hL:L.length<=1000000) (ho:w.ownsRow B 4 1 (.slice (some ⟨sb,0,none⟩) L.length sc) L.length (uv L)):cZ w (c.cC sb L.length sc) { e with so:=L } :=
 { number:=h.number,time:=h.time,low:=h.low,sl:=rfl,slen:=hL,so:=⟨sb,rfl,(ho.lt sb rfl).2,bits_cell ho⟩,al:=h.al,alen:=h.alen,atoms:=h.atoms }
theorem b7 {w:World} {k i:Nat} {v:Value} {cs:Array Value} {t:TypeId} {m:Nat×Nat} (h:w.heap[k]? = some (.cells cs t m)):(w.setCell ⟨k,i,none⟩ v).heap[k]? = some (.cells (cs.setIfInBounds i v) t m):=by
 simp [World.setCell,Array.getElem?_modify,h,Array.setIfInBounds_def]
theorem qO {E F:Nat->Pe} {m:Nat} (h:∀ i,i<m->E i=F i):cv E m=cv F m:=by
 unfold cv
 exact List.map_congr_left fun x _=>h x.1 x.2
structure WorkAt (g m:Nat) (cg:Array Value) (w wr:World) (e:Pe) (sb sc:Nat):Prop where
 row:wr.heap[g]? = some (.cells (cg.setIfInBounds (m*4+3) (.slice (some ⟨sb,0,none⟩) e.so.length sc)) 159 (0,0))
 own:wr.ownsRow (w.heap.size+1) 4 1 (.slice (some ⟨sb,0,none⟩) e.so.length sc) e.so.length (uv e.so)
 only:Only g w wr
 res:wr.heap[w.heap.size]? = some (.cells #[.int .i64 0,.int .i64 0,.slice none 0 0,.slice none 0 0] 159 (0,0))
theorem WorkAt.ne {g m:Nat} {cg:Array Value} {w wr:World} {e:Pe} {sb sc:Nat} (h:WorkAt g m cg w wr e sb sc):sb≠g:=by
 rintro rfl
 obtain ⟨h1,⟨h2,_⟩ | ⟨g',cap,cur,e1,_,e2,_⟩⟩:=h.own
 ·cases h2
 ·cases e1;have:=h.row;rw [e2] at this;cases this
set_option maxRecDepth 100000 in
set_option maxHeartbeats 8000000 in
theorem workOut_any (no:Option Addr) (aI:Nat) (K:List Key) (g cap m:Nat) (cg:Array Value) (C:Nat->bx) (E:Nat->Pe) (w:World) (hm:m+1<=1000000) (cW:m+1<=cap) (hK:K.length<=1000) (hnc:K.length<=aI)
  (hg:w.heap[g]? = some (.cells cg 159 (0,0))) (hc:∀ i k v,i<m+1->(bf (C i))[k]? = some v->cg[i*4+k]? = some v) (hN:eB w no K) (hng:∀ a,no=some a->a.block≠g) (aN:∀ k∈K,ib k.op) (hA:qg K)
  (hE:∀ i,i<m->cZ w (C i) (E i)) (bT:∀ i,i<m->(E i).so.length=K.length+1) (hoff:∀ i,i<m->EvOff g (C i)) (hM:qh w (C m) (E m)) (hMo:∀ a,(C m).ao=some a->a.block≠g) :
  Calls Tryz.prog 132 #[.slice no K.length aI,.slice (some ⟨g,0,none⟩) (m+1) cap] w fun e W'=>∃ sb sc cur,e=.returned (gv ((C m).cC sb (K.length+1) sc))/\w.heap.size<=sb/\Only g w W'/\
   W'.heap[g]? = some (.cells (cg.setIfInBounds (m*4+3) (.slice (some ⟨sb,0,none⟩) (K.length+1) sc)) 159 (0,0))/\W'.heap[sb]? = some (.cells cur 4 (0,0))/\cZ W' ((C m).cC sb (K.length+1) sc) (b9 (cv E m) K (E m).bare):=by
 have p3:w.cell? ⟨g,m*4+3,none⟩=some (.slice (C m).so (C m).sl (C m).sc):=ae hg (hc m 3 _ (by omega) rfl)
 have f3:w.frozen? ⟨g,m*4+3,none⟩=false:=Lib.frozen_of_heap hg _
 have hgl:=aw hg
 obtain ⟨i0,hi,lr,iU,lu⟩:=info_parts infoBool
 have hmk:∀ w:World,(Instr.makeSlice 157 (.int .i64 1) (.int .i64 (1+(K.length:Int)))).run Tryz.prog w=.ok (.slice (some ⟨w.heap.size,0,none⟩) 1 (K.length+1)) (w.alloc (.cells (madeCells (Value.bool false).cells (K.length+1)) 4)):=fun w=>by
  have:=run_makeSlice (P:=Tryz.prog) w 157 4 i0 _ Tryz.underlying157 hi lr .i64 .i64 1 (1+(K.length:Int)) (by omega) (by omega) (by rw [iU];omega) (by rw [lu];omega) (by omega)
  rw [this,iU]
  have e1:(1+(K.length:Int)).toNat=K.length+1:=by omega
  rw [e1]
  simp
 have hbare:(E m).bare.so.length=1:=rfl
 generalize hn:K.length=n at *
 have hWst:WorkAt g m cg w (((w.setCell ⟨g,m*4+3,none⟩ (.slice (some ⟨w.heap.size+1,0,none⟩) 1 (n+1))).alloc (.cells #[.int .i64 0,.int .i64 0,.slice none 0 0,.slice none 0 0] 159)).alloc (.cells (madeCells #[.bool false] (n+1)) 4)) (b9 (cv E m) (K.take 0) (E m).bare) (w.heap.size+1) (n+1):=by
  have hss:(w.setCell ⟨g,m*4+3,none⟩ (.slice (some ⟨w.heap.size+1,0,none⟩) 1 (n+1))).heap.size=w.heap.size:=by simp [World.setCell]
  have e0:(b9 (cv E m) (K.take 0) (E m).bare)=(E m).bare:=rfl
  rw [e0]
  refine ⟨?_,⟨rfl,.inr ⟨w.heap.size+1,n+1,_,rfl,Nat.le_refl _,aB _ _ _ (by simp [World.setCell]),by simp [Pe.bare],by unfold maxLen;omega,by simp [size_madeCells],?_⟩⟩,(((Only.refl g w).setCell (p:=⟨g,m*4+3,none⟩) (.inl rfl) _).alloc _).alloc _,?_⟩
  ·rw [Below.heap_alloc _ _ _ (by simp [World.setCell];omega),Below.heap_alloc _ _ _ (by simp [World.setCell];omega)];exact b7 hg
  ·rw [toList_madeCells_one];rfl
  ·rw [Below.heap_alloc _ _ _ (by simp [World.setCell])];exact aB _ _ _ (by simp [World.setCell])
 go_enter Tryz.func132,Tryz.ntmps132
 go_wp2_with fail
 generalize (((w.setCell ⟨g,m*4+3,none⟩ (.slice (some ⟨w.heap.size+1,0,none⟩) 1 (n+1))).alloc (.cells #[.int .i64 0,.int .i64 0,.slice none 0 0,.slice none 0 0] 159)).alloc (.cells (madeCells #[.bool false] (n+1)) 4))=Wst at hWst ⊢
 clear hmk p3 f3
 go_loopw [22] (fun iv wr=>∃ (j:Nat) (sb sc:Nat),iv=.int .i64 j/\j<=n/\WorkAt g m cg w wr (b9 (cv E m) (K.take j) (E m).bare) sb sc) (fun iv _=>n-(intOf iv).toNat)
 case atStart=>exact ⟨0,_,_,rfl,Nat.zero_le _,hWst⟩
 case round =>
  clear hWst
  obtain ⟨j,sb,sc,rfl,hjn,hW⟩:=hrel
  obtain ⟨w1,w2,w3,w4,_⟩:=eZ (cv E m) (K.take j) (E m).bare
  have hlen:(b9 (cv E m) (K.take j) (E m).bare).so.length=j+1:=by rw [w4,List.length_take,hbare];omega
  have hEj:(b9 (cv E m) (K.take j) (E m).bare)={ E m with so:=(b9 (cv E m) (K.take j) (E m).bare).so }:=by
   have:∀ a b:Pe,a.number=b.number->a.time=b.time->a.atoms=b.atoms->a={ b with so:=a.so }:=fun a b h1 h2 h3=>by cases a;cases b;simp at h1 h2 h3;simp [h1,h2,h3]
   exact this _ _ w1 w2 w3
  by_cases hj:j<n
  ·have hjl:j<K.length:=by omega
   have hkget:K[j]? = some K[j]:=List.getElem?_eq_getElem hjl
   obtain ⟨nb,rfl,hnb,hnk⟩:=hN (by intro h;rw [h] at hjl;simp at hjl)
   have hnbg:nb≠g:=hng _ rfl
   have hkop:=aN _ (List.mem_of_getElem? hkget)
   obtain ⟨a1,a2,a3,a4⟩:=hA j _ hkget
   obtain ⟨c0,c1,c2,c3,c4,c5⟩:=hnk j _ hkget
   have hsnoc:b9 (cv E m) (K.take (j+1)) (E m).bare=(b9 (cv E m) (K.take j) (E m).bare).add (jn K[j] (b9 (cv E m) (K.take j) (E m).bare) (cv E m)):=by
    rw [<- List.take_append_getElem hjl,uf]
   generalize K[j]=k at *
   obtain ⟨ln,hln⟩:∃ ln:Nat,k.l=(ln:Int):=⟨k.l.toNat,by omega⟩
   obtain ⟨rn,hrn⟩:∃ rn:Nat,k.r=(rn:Int):=⟨k.r.toNat,by omega⟩
   rw [hln] at c4 a2
   rw [hrn] at c5 a4
   have hkey:k=⟨k.op,k.name,k.lo,k.hi,(ln:Int),(rn:Int)⟩:=by rw [<- hln,<- hrn]
   generalize hej:b9 (cv E m) (K.take j) (E m).bare=ej at *
   have hO:∀ b,b<w.heap.size->b≠g->wr.heap[b]? = w.heap[b]?:=hW.only.block
   have d0:wr.cell? ⟨nb,j*6,none⟩=some (.int .i32 k.op):=(World.cell?_of_block (hO nb hnb hnbg)).trans c0
   have d1:wr.cell? ⟨nb,j*6+1,none⟩=some (.string k.name):=(World.cell?_of_block (hO nb hnb hnbg)).trans c1
   have d2:wr.cell? ⟨nb,j*6+2,none⟩=some (.int .i64 k.lo):=(World.cell?_of_block (hO nb hnb hnbg)).trans c2
   have d3:wr.cell? ⟨nb,j*6+3,none⟩=some (.int .i64 k.hi):=(World.cell?_of_block (hO nb hnb hnbg)).trans c3
   have d4:wr.cell? ⟨nb,j*6+4,none⟩=some (.int .i64 (ln:Int)):=(World.cell?_of_block (hO nb hnb hnbg)).trans c4
   have d5:wr.cell? ⟨nb,j*6+5,none⟩=some (.int .i64 (rn:Int)):=(World.cell?_of_block (hO nb hnb hnbg)).trans c5
   have HS:Hid (∀ w',Below wr.heap.size wr w'->Calls Tryz.prog 169 #[.agg #[.int .i32 k.op,.string k.name,.int .i64 k.lo,.int .i64 k.hi,.int .i64 (ln:Int),.int .i64 (rn:Int)],.slice (some ⟨g,0,none⟩) (m+1) cap] w' fun e W'=>e=.returned (.bool (jn k ej (cv E m)))/\Below w'.heap.size w' W'):=fun w' hb=>by
    have hrow':=hb.aE hW.row
    have hcw:∀ i q v,i<m+1->(bf (if i=m then (C m).cC sb (j+1) sc else C i))[q]? = some v->w'.cell? ⟨g,i*4+q,none⟩=some v:=fun i q v hi hv=>by
     refine ae hrow' ?_
     rw [hlen]
     by_cases him:i=m
     ·subst him
      rw [if_pos rfl] at hv
      have h3:=hc i 3 _ hi (show (bf (C i))[3]? = some _ from rfl)
      have h3l:i*4+3<cg.size:=(Array.getElem?_eq_some_iff.1 h3).1
      rcases q with _ | _ | _ | _ | q
      ·rw [Array.getElem?_setIfInBounds_ne (by omega)];exact hc i 0 v hi hv
      ·rw [Array.getElem?_setIfInBounds_ne (by omega)];exact hc i 1 v hi hv
      ·rw [Array.getElem?_setIfInBounds_ne (by omega)];exact hc i 2 v hi hv
      ·have hv':some (.slice (some ⟨sb,0,none⟩) (j+1) sc)=some v:=hv
       rw [Array.getElem?_setIfInBounds_self_of_lt h3l];exact hv'
      ·simp [bf] at hv
     ·rw [if_neg him] at hv
      have hq:q<4:=by have:=(List.getElem?_eq_some_iff.1 hv).1;simpa [bf] using this
      rw [Array.getElem?_setIfInBounds_ne (by omega)];exact hc i q v hi hv
    have hEw:∀ i,i<m+1->cZ w' (if i=m then (C m).cC sb (j+1) sc else C i) (if i=m then ej else E i):=fun i hi=>by
     by_cases him:i=m
     ·rw [if_pos him,if_pos him]
      have h1:=(hM.only (g:=g) hMo (hW.only.trans (Only.aL hb))).with (L:=ej.so) (by rw [hlen];omega) (dw hW.own fun b hbb=>hb.block b (hW.own.lt b hbb).2)
      rw [hlen,<- hEj] at h1
      exact h1
     ·rw [if_neg him,if_neg him]
      exact (hE i (by omega)).only (hoff i (by omega)) (hW.only.trans (Only.aL hb))
    have hlr:∀ (x:Nat),x<=j->∀ i,i<m+1->x<(if i=m then ej else E i).so.length:=fun x hx i hi=>by
     by_cases him:i=m
     ·rw [if_pos him,hlen];omega
     ·rw [if_neg him,bT i (by omega)];omega
    have:=says_any k.op k.name k.lo k.hi ln rn g cap m (fun i=>if i=m then (C m).cC sb (j+1) sc else C i) (fun i=>if i=m then ej else E i) w' hkop hm (Nat.lt_of_lt_of_le (aw hW.row) hb.size) cW hcw hEw (hlr ln (by omega)) (hlr rn (by omega))
    rw [if_pos rfl,<- hkey,qO (F:=E) (fun i hi=>by rw [if_neg (by omega)])] at this
    exact this
   have hsb:=hW.ne
   have jF:=hW.row
   have kR:=hW.own
   have hon1:=hW.only
   have mP:=hW.res
   rw [hlen] at jF kR
   have hgl1:=aw jF
   have h3l:m*4+3<cg.size:=(Array.getElem?_eq_some_iff.1 (hc m 3 _ (by omega) rfl)).1
   generalize hbit:jn k ej (cv E m)=bit at *
   have Hsnoc:Hid _:=hsnoc
   clear hE bT hoff hM hMo hN hng aN hA hc hW hnk c0 c1 c2 c3 c4 c5 hO hEj hkey hsnoc
   go_wp2_with fail
   have hX:(wr.alloc (.cells #[.int .i32 k.op,.string k.name,.int .i64 k.lo,.int .i64 k.hi,.int .i64 (ln:Int),.int .i64 (rn:Int)] 226)).heap[wr.heap.size]? = some (.cells #[.int .i32 k.op,.string k.name,.int .i64 k.lo,.int .i64 k.hi,.int .i64 (ln:Int),.int .i64 (rn:Int)] 226 (0,0)):=aB _ _ _ rfl
   have a_:Below wr.heap.size wr (wr.alloc (.cells #[.int .i32 k.op,.string k.name,.int .i64 k.lo,.int .i64 k.hi,.int .i64 (ln:Int),.int .i64 (rn:Int)] 226)):=(Below.refl _ _).al _
   have hsz1:(wr.alloc (.cells #[.int .i32 k.op,.string k.name,.int .i64 k.lo,.int .i64 k.hi,.int .i64 (ln:Int),.int .i64 (rn:Int)] 226)).heap.size=wr.heap.size+1:=by simp
   generalize (wr.alloc (.cells #[.int .i32 k.op,.string k.name,.int .i64 k.lo,.int .i64 k.hi,.int .i64 (ln:Int),.int .i64 (rn:Int)] 226))=W1 at hX a_ hsz1 ⊢
   generalize hXe:wr.heap.size=X at *
   have kj:Hid (∀ w',Below W1.heap.size W1 w'->(fun w'=>w'.cell? ⟨g,m*4+3,none⟩=some (.slice (some ⟨sb,0,none⟩) (j+1) sc)/\w'.cell? ⟨X,0,none⟩=some (.int .i32 k.op)/\w'.cell? ⟨X,1,none⟩=some (.string k.name)/\w'.cell? ⟨X,2,none⟩=some (.int .i64 k.lo)/\w'.cell? ⟨X,3,none⟩=some (.int .i64 k.hi)/\w'.cell? ⟨X,4,none⟩=some (.int .i64 (ln:Int))/\w'.cell? ⟨X,5,none⟩=some (.int .i64 (rn:Int))) w'):=fun w' hb=>by
    have hx:=hb.aE hX
    have hr:=hb.aE ((a_.block g hgl1).trans jF)
    exact ⟨ae hr (by rw [Array.getElem?_setIfInBounds_self_of_lt h3l]),ae hx rfl,ae hx rfl,ae hx rfl,ae hx rfl,ae hx rfl,ae hx rfl⟩
   have hZ:=kj.out _ (Below.refl _ W1).drew
   refine bh.begin (S:=(fun w'=>w'.cell? ⟨g,m*4+3,none⟩=some (.slice (some ⟨sb,0,none⟩) (j+1) sc)/\w'.cell? ⟨X,0,none⟩=some (.int .i32 k.op)/\w'.cell? ⟨X,1,none⟩=some (.string k.name)/\w'.cell? ⟨X,2,none⟩=some (.int .i64 k.lo)/\w'.cell? ⟨X,3,none⟩=some (.int .i64 k.hi)/\w'.cell? ⟨X,4,none⟩=some (.int .i64 (ln:Int))/\w'.cell? ⟨X,5,none⟩=some (.int .i64 (rn:Int)))) (fin:=12) (by kernel_rfl) ?_
   simp only [List.size_toArray,List.length_cons,List.length_nil,Nat.reduceAdd,Nat.zero_add]
   refine bh.take 0 (v:=?v0) rfl (by decide +kernel) (by decide +kernel) (by decide +kernel) (by decide +kernel) (fun _ _ _ h=>h) (by rfl) (fun w' hS=>Go.Conc.run_eq_of ?r0) hZ ?_
   case r0 =>
    intro K' hK'
    obtain ⟨y0,y1,y2,y3,y4,y5,y6⟩:=hS
    go_simp
    exact hK'
   try walk_nrm
   refine bh.take 1 (v:=?v1) rfl (by decide +kernel) (by decide +kernel) (by decide +kernel) (by decide +kernel) (fun _ _ _ h=>h) (by rfl) (fun w' hS=>Go.Conc.run_eq_of ?r1) hZ ?_
   case r1 =>
    intro K' hK'
    obtain ⟨y0,y1,y2,y3,y4,y5,y6⟩:=hS
    go_simp
    exact hK'
   try walk_nrm
   refine bh.take 2 (v:=?v2) rfl (by decide +kernel) (by decide +kernel) (by decide +kernel) (by decide +kernel) (fun _ _ _ h=>h) (by rfl) (fun w' hS=>Go.Conc.run_eq_of ?r2) hZ ?_
   case r2 =>
    intro K' hK'
    obtain ⟨y0,y1,y2,y3,y4,y5,y6⟩:=hS
    go_simp
    exact hK'
   try walk_nrm
   refine bh.take 3 (v:=?v3) rfl (by decide +kernel) (by decide +kernel) (by decide +kernel) (by decide +kernel) (fun _ _ _ h=>h) (by rfl) (fun w' hS=>Go.Conc.run_eq_of ?r3) hZ ?_
   case r3 =>
    intro K' hK'
    obtain ⟨y0,y1,y2,y3,y4,y5,y6⟩:=hS
    go_simp
    exact hK'
   try walk_nrm
   refine bh.take 4 (v:=?v4) rfl (by decide +kernel) (by decide +kernel) (by decide +kernel) (by decide +kernel) (fun _ _ _ h=>h) (by rfl) (fun w' hS=>Go.Conc.run_eq_of ?r4) hZ ?_
   case r4 =>
    intro K' hK'
    obtain ⟨y0,y1,y2,y3,y4,y5,y6⟩:=hS
    go_simp
    exact hK'
   try walk_nrm
   refine bh.take 5 (v:=?v5) rfl (by decide +kernel) (by decide +kernel) (by decide +kernel) (by decide +kernel) (fun _ _ _ h=>h) (by rfl) (fun w' hS=>Go.Conc.run_eq_of ?r5) hZ ?_
   case r5 =>
    intro K' hK'
    obtain ⟨y0,y1,y2,y3,y4,y5,y6⟩:=hS
    go_simp
    exact hK'
   try walk_nrm
   refine bh.take 6 (v:=?v6) rfl (by decide +kernel) (by decide +kernel) (by decide +kernel) (by decide +kernel) (fun _ _ _ h=>h) (by rfl) (fun w' hS=>Go.Conc.run_eq_of ?r6) hZ ?_
   case r6 =>
    intro K' hK'
    obtain ⟨y0,y1,y2,y3,y4,y5,y6⟩:=hS
    go_simp
    exact hK'
   try walk_nrm
   refine bh.one (i:=7) (by decide +kernel) rfl (by rfl) ?_
   unfold Oper.wp
   rw [Go.Conc.run_call_body (f:=169) (args:=#[.tmp 31,.tmp 32]) (ats:=#[226,146]) rfl Tryz.func169 (by decide) rfl]
   simp only [Oper.upon,List.map_toArray,List.map_cons,List.map_nil]
   change Calls Tryz.prog 169 #[.agg #[.int .i32 k.op,.string k.name,.int .i64 k.lo,.int .i64 k.hi,.int .i64 (ln:Int),.int .i64 (rn:Int)],.slice (some ⟨g,0,none⟩) (m+1) cap] W1.drew _
   refine (HS.out W1.drew a_.drew).mono ?_
   rintro e w1 ⟨rfl,cB⟩
   replace cB:Below W1.heap.size W1 w1:=(Below.refl _ W1).drew.trans cB
   refine ⟨fun _=>kj.out _ cB,?_⟩
   try walk_nrm
   refine bh.op (i:=8) (by decide +kernel) rfl (by rfl) (fun K' hK'=>?_)
   unfold Oper.wp
   go_simp
   refine hK' _ _ ⟨fun _=>kj.out _ (cB.al _),?_⟩
   clear hK' K'
   try walk_nrm
   have gi:(w1.alloc (.cells #[.bool bit] 4)).ownsRow (w.heap.size+1) 4 1 (.slice (some ⟨sb,0,none⟩) (j+1) sc) (j+1) (uv ej.so):=by
    have o1:=dw kR (w':=W1) fun b hbb=>a_.block b (by have:=(kR.lt b hbb).2;omega)
    have o2:=dw o1 (w':=w1) fun b hbb=>cB.block b (o1.lt b hbb).2
    exact o2.alloc _
   have hww:w.heap.size+1<=w1.heap.size:=by have:=(kR.lt sb rfl);have:=cB.size;omega
   refine bh.one (i:=9) (by decide +kernel) rfl (by rfl) (wp_append_own (.tmp 30) (.tmp 34) 157 rfl (w.heap.size+1) 4 i0 _ 1 1 Tryz.underlying157 hi lr iU lu rfl (by decide) (.slice (some ⟨sb,0,none⟩) (j+1) sc) (j+1) (uv ej.so) rfl gi ⟨w1.heap.size,0,none⟩ 1 1 [.bool bit] rfl rfl (cell_one_new w1 _ 4) (by simp [Value.oneCell']) (by unfold maxLen;omega) (by omega) (by simp;omega) ?_)
   intro v' w2 dm bz hor
   obtain ⟨sb2,sc2,rfl⟩:=ownsRow_succ dm
   have hXsb:X≠sb:=by have:=(kR.lt sb rfl).2;omega
   have hgg:w2.heap[g]? = some (.cells (cg.setIfInBounds (m*4+3) (.slice (some ⟨sb,0,none⟩) (j+1) sc)) 159 (0,0)):=by
    have h1:=(cB.al (.cells #[.bool bit] 4)).aE ((a_.block g hgl1).trans jF)
    rw [bz.block g (aw h1) (fun e=>hsb (by cases e;rfl))];exact h1
   have hxx:w2.heap[X]? = some (.cells #[.int .i32 k.op,.string k.name,.int .i64 k.lo,.int .i64 k.hi,.int .i64 (ln:Int),.int .i64 (rn:Int)] 226 (0,0)):=by
    have h1:=(cB.al (.cells #[.bool bit] 4)).aE hX
    rw [bz.block X (aw h1) (fun e=>hXsb (by cases e;rfl))];exact h1
   have hS2:(fun w'=>w'.cell? ⟨g,m*4+3,none⟩=some (.slice (some ⟨sb,0,none⟩) (j+1) sc)/\w'.cell? ⟨X,0,none⟩=some (.int .i32 k.op)/\w'.cell? ⟨X,1,none⟩=some (.string k.name)/\w'.cell? ⟨X,2,none⟩=some (.int .i64 k.lo)/\w'.cell? ⟨X,3,none⟩=some (.int .i64 k.hi)/\w'.cell? ⟨X,4,none⟩=some (.int .i64 (ln:Int))/\w'.cell? ⟨X,5,none⟩=some (.int .i64 (rn:Int))) w2:=⟨ae hgg (by rw [Array.getElem?_setIfInBounds_self_of_lt h3l]),ae hxx rfl,ae hxx rfl,ae hxx rfl,ae hxx rfl,ae hxx rfl,ae hxx rfl⟩
   have hsbl:=(kR.lt sb rfl).1
   have hon2:Only g w w2:=by
    have o1:Only g w (w1.alloc (.cells #[.bool bit] 4)):=((hon1.trans (Only.aL (hXe▸a_))).trans (Only.aL cB)).alloc _
    exact ⟨bz.os.trans o1.os,bz.tape.trans o1.tape,bz.output.trans o1.output,Nat.le_trans o1.size bz.size,fun b hb hbg=>(bz.block b (Nat.lt_of_lt_of_le hb o1.size) (fun e=>absurd (show b=sb by simpa [Value.ownBlock] using e) (by omega))).trans (o1.block b hb hbg)⟩
   have hres2:w2.heap[w.heap.size]? = some (.cells #[.int .i64 0,.int .i64 0,.slice none 0 0,.slice none 0 0] 159 (0,0)):=by
    have h1:=(cB.al (.cells #[.bool bit] 4)).aE ((a_.block _ (by have:=aw mP;omega)).trans mP)
    rw [bz.block _ (aw h1) (fun e=>absurd (show w.heap.size=sb by simpa [Value.ownBlock] using e) (by omega))];exact h1
   have hsb2:sb2≠g:=by
    rintro rfl
    obtain ⟨_,⟨h2,_⟩ | ⟨g',mq,cur,e1,_,e2,_⟩⟩:=dm
    ·cases h2
    ·cases e1;rw [hgg] at e2;cases e2
   refine ⟨fun _=>hS2,?_⟩
   try walk_nrm
   refine bh.op (i:=10) (by decide +kernel) rfl (by rfl) (fun K' hK'=>?_)
   unfold Oper.wp
   go_simp
   refine hK' _ _ ⟨fun _=>hS2,?_⟩
   clear hK' K'
   try walk_nrm
   refine bh.op (i:=11) (by decide +kernel) rfl (by rfl) (fun K' hK'=>?_)
   unfold Oper.wp
   go_simp
   refine hK' _ _ ⟨fun _=>hS2,?_⟩
   clear hK' K'
   try walk_nrm
   refine bh.op (i:=12) (by decide +kernel) rfl (by rfl) (fun K' hK'=>?_)
   unfold Oper.wp
   have r_:=hS2.1
   have hf3:w2.frozen? ⟨g,m*4+3,none⟩=false:=Lib.frozen_of_heap hgg _
   go_simp
   refine hK' _ _ ⟨fun x=>absurd rfl x,?_⟩
   clear hK' K'
   refine bh.done (by decide +kernel) ?_ _
   try walk_nrm
   have bH:WorkAt g m cg w (w2.setCell ⟨g,m*4+3,none⟩ (.slice (some ⟨sb2,0,none⟩) (j+1+1) sc2)) (b9 (cv E m) (K.take (j+1)) (E m).bare) sb2 sc2:=by
    rw [Hsnoc.out]
    have hl2:(ej.add bit).so.length=j+1+1:=by simp [Pe.add,hlen]
    refine ⟨?_,?_,hon2.setCell (p:=⟨g,m*4+3,none⟩) (.inl rfl) _,?_⟩
    ·rw [hl2]
     have:=b7 (i:=m*4+3) (v:=.slice (some ⟨sb2,0,none⟩) (j+1+1) sc2) hgg
     rwa [Array.setIfInBounds_setIfInBounds] at this
    ·rw [hl2]
     have e1:uv (ej.add bit).so=uv ej.so++[.bool bit]:=by simp [uv,Pe.add]
     rw [e1]
     exact dw dm fun b hbb=>Below.heap_setCell _ _ _ _ (by cases hbb;exact fun e=>hsb2 e)
    ·rw [Below.heap_setCell _ _ _ _ (by show w.heap.size≠g;omega)];exact hres2
   go_wp2_with fail
   go_roundw
   case rel=>exact ⟨j+1,sb2,sc2,by go_num,by omega,bH⟩
   case measure=>simp only [intOf];omega
  ·obtain rfl:j=n:=by omega
   have hMw:=(hM.only (g:=g) hMo hW.only).with (L:=(b9 (cv E m) (K.take j) (E m).bare).so) (by rw [hlen];omega) hW.own
   rw [hlen,<- hEj,List.take_of_length_le (by omega)] at hMw
   have jF:=hW.row
   have kR:=hW.own
   have hon1:=hW.only
   have mP:=hW.res
   have hsb:=hW.ne
   have hsbl:=(kR.lt sb rfl).1
   rw [hlen] at jF kR
   have h3:=hc m 3 _ (by omega) (show (bf (C m))[3]? = some _ from rfl)
   have h3l:m*4+3<cg.size:=(Array.getElem?_eq_some_iff.1 h3).1
   have p0:wr.cell? ⟨g,m*4,none⟩=some (.int .i64 (C m).number):=ae jF (by rw [Array.getElem?_setIfInBounds_ne (by omega)];exact hc m 0 _ (by omega) rfl)
   have p1:wr.cell? ⟨g,m*4+1,none⟩=some (.int .i64 (C m).time):=ae jF (by rw [Array.getElem?_setIfInBounds_ne (by omega)];exact hc m 1 _ (by omega) rfl)
   have p2:wr.cell? ⟨g,m*4+2,none⟩=some (.slice (C m).ao (C m).al (C m).ac):=ae jF (by rw [Array.getElem?_setIfInBounds_ne (by omega)];exact hc m 2 _ (by omega) rfl)
   have p3:wr.cell? ⟨g,m*4+3,none⟩=some (.slice (some ⟨sb,0,none⟩) (j+1) sc):=ae jF (by rw [Array.getElem?_setIfInBounds_self_of_lt h3l])
   have r0:=ae (i:=0) mP rfl
   have r1:=ae (i:=1) mP rfl
   have r2:=ae (i:=2) mP rfl
   have r3:=ae (i:=3) mP rfl
   have fz:∀ q,wr.frozen? ⟨w.heap.size,q,none⟩=false:=fun q=>Lib.frozen_of_heap mP q
   have HM:Hid (eI w (C m).ao (E m).atoms):=hM.atoms
   have HMo:Hid (∀ a,(C m).ao=some a->a.block≠g):=hMo
   clear hE bT hoff hM hMo hN hng aN hA hc hW hEj
   go_wp2_with fail
   have hR:=b7 (i:=3) (v:=.slice (some ⟨sb,0,none⟩) (j+1) sc) (b7 (i:=2) (v:=.slice (C m).ao (C m).al (C m).ac) (b7 (i:=1) (v:=.int .i64 (C m).time) (b7 (i:=0) (v:=.int .i64 (C m).number) mP)))
   simp only [List.setIfInBounds_toArray,List.set_cons_zero,List.set_cons_succ] at hR
   have hoth:∀ b,b≠w.heap.size->(((((wr.setCell ⟨w.heap.size,0,none⟩ (.int .i64 (C m).number)).setCell ⟨w.heap.size,1,none⟩ (.int .i64 (C m).time)).setCell ⟨w.heap.size,2,none⟩ (.slice (C m).ao (C m).al (C m).ac)).setCell ⟨w.heap.size,3,none⟩ (.slice (some ⟨sb,0,none⟩) (j+1) sc))).heap[b]? = wr.heap[b]?:=fun b hb=>by
    rw [Below.heap_setCell _ _ _ _ hb,Below.heap_setCell _ _ _ _ hb,Below.heap_setCell _ _ _ _ hb,Below.heap_setCell _ _ _ _ hb]
   have hO4:Only w.heap.size wr (((((wr.setCell ⟨w.heap.size,0,none⟩ (.int .i64 (C m).number)).setCell ⟨w.heap.size,1,none⟩ (.int .i64 (C m).time)).setCell ⟨w.heap.size,2,none⟩ (.slice (C m).ao (C m).al (C m).ac)).setCell ⟨w.heap.size,3,none⟩ (.slice (some ⟨sb,0,none⟩) (j+1) sc))):=((((Only.refl _ wr).setCell (p:=⟨w.heap.size,0,none⟩) (.inl rfl) _).setCell (p:=⟨w.heap.size,1,none⟩) (.inl rfl) _).setCell (p:=⟨w.heap.size,2,none⟩) (.inl rfl) _).setCell (p:=⟨w.heap.size,3,none⟩) (.inl rfl) _
   generalize (((((wr.setCell ⟨w.heap.size,0,none⟩ (.int .i64 (C m).number)).setCell ⟨w.heap.size,1,none⟩ (.int .i64 (C m).time)).setCell ⟨w.heap.size,2,none⟩ (.slice (C m).ao (C m).al (C m).ac)).setCell ⟨w.heap.size,3,none⟩ (.slice (some ⟨sb,0,none⟩) (j+1) sc)))=W4 at hR hoth hO4 ⊢
   obtain ⟨_,⟨h2,_⟩ | ⟨g',mq,cur,e1,_,e2,_⟩⟩:=kR
   ·cases h2
   cases e1
   have q0:=ae (i:=0) hR rfl
   have q1:=ae (i:=1) hR rfl
   have q2:=ae (i:=2) hR rfl
   have q3:=ae (i:=3) hR rfl
   have hgne:g≠w.heap.size:=by omega
   refine ⟨rfl,gv ((C m).cC sb (j+1) sc),?_,sb,sc,cur,rfl,by omega,⟨hO4.os.trans hon1.os,hO4.tape.trans hon1.tape,hO4.output.trans hon1.output,Nat.le_trans hon1.size hO4.size,fun b hb hbg=>(hoth b (by omega)).trans (hon1.block b hb hbg)⟩,(hoth g hgne).trans jF,(hoth sb (by omega)).trans e2,?_⟩
   ·simp [results,Tryz.f132,go_sem,loadVar,gv,bx.cC,q0,q1,q2,q3]
   ·obtain ⟨sb',s1,s2,s3⟩:=hMw.so
    have hse:sb'=sb:=by have:some (⟨sb,0,none⟩:Addr)=some ⟨sb',0,none⟩:=s1;simp at this;exact this.symm
    subst hse
    have hats:(b9 (cv E m) K (E m).bare).atoms=(E m).atoms:=(eZ (cv E m) K (E m).bare).2.2.1
    refine { hMw with so:=⟨sb',s1,Nat.lt_of_lt_of_le s2 hO4.size,fun q b hq=>?_⟩,atoms:=?_ }
    ·rw [World.cell?_of_block (hoth sb' (by omega))];exact s3 q b hq
    ·rw [hats]
     intro hne
     obtain ⟨b,off,h1,h2,h3⟩:=HM.out hne
     refine ⟨b,off,h1,Nat.lt_of_lt_of_le h2 (Nat.le_trans hon1.size hO4.size),fun q hq=>?_⟩
     rw [World.cell?_of_block (hoth b (by omega)),World.cell?_of_block (hon1.block b h2 (HMo.out _ h1))];exact h3 q hq
theorem infoStr:(Tryz.prog.info? 9).map (fun i=>(i.zero,i.size,i.bytes))=some (some (.string ⟨#[]⟩),1,16):=by kernel_rfl
def fH (L:List ByteArray):List Value:=L.map Value.string
theorem strsV_len (L:List ByteArray):(fH L).length=L.length:=by simp [fH]
theorem strsV_take (A:List ByteArray) (i:Nat) (h:i<A.length):fH (A.take (i+1))=fH (A.take i)++[.string (A.getD i ByteArray.empty)]:=by
 have e:A.getD i ByteArray.empty=A[i]:=by rw [List.getD_eq_getElem?_getD,List.getElem?_eq_getElem h];rfl
 rw [<- List.take_append_getElem h,e]
 unfold fH
 rw [List.map_append]
 rfl
theorem rQ {w:World} {B:Nat} {v:Value} {A:List ByteArray} (h:w.ownsRow B 9 1 v A.length (fH A)):∃ ao cap,v=.slice ao A.length cap/\A.length<=cap/\eI w ao A/\∀ a,ao=some a->B<=a.block/\∃ cs,w.heap[a.block]? = some (.cells cs 9 (0,0)):=by
 have hl:=h.lt
 have h':=h
 obtain ⟨h1,⟨rfl,h2⟩ | ⟨g,cap,cur,rfl,h3,h4,h5,h6,h7,h8⟩⟩:=h
 ·exact ⟨none,0,by rw [h2],by omega,fun hne=>absurd (List.length_eq_zero_iff.1 h2) hne,fun a ha=>by cases ha⟩
 ·refine ⟨some ⟨g,0,none⟩,cap,rfl,h5,fun _=>⟨g,0,rfl,(hl g rfl).2,fun j hj=>?_⟩,fun a ha=>by cases ha;exact ⟨h3,cur,h4⟩⟩
  rw [Nat.zero_add]
  refine gH h' rfl ?_
  simp [fH,hj,List.getD_eq_getElem?_getD]
set_option maxHeartbeats 2000000 in
theorem copyOf_any (ao:Option Addr) (A:List ByteArray) (cap:Nat) (w:World) (h:eI w ao A) (hA:A.length<=1000) (cW:A.length<=cap) (hs:∀ j,j<A.length->(A.getD j ByteArray.empty).size<=1000) :
  Calls Tryz.prog 129 #[.slice ao A.length cap] w fun e w'=>∃ v,e=.returned v/\w'.ownsRow w.heap.size 9 1 v A.length (fH A)/\Below w.heap.size w w':=by
 have HA:Hid (∀ w',Below w.heap.size w w'->eI w' ao A):=fun w' hb=>h.below hb
 obtain ⟨i0,hi,lr,iU,lu⟩:=info_parts infoStr
 generalize hlen:A.length=n at *
 clear h
 go_enter Tryz.func129,Tryz.ntmps129
 go_wp2_with fail
 go_loopw [8,3] (fun iv v wr=>∃ i:Nat,iv=.int .i64 i/\i<=n/\wr.ownsRow w.heap.size 9 1 v i (fH (A.take i))/\Below w.heap.size w wr) (fun iv _ _=>n-(intOf iv).toNat)
 case atStart=>exact ⟨0,rfl,Nat.zero_le _,World.ownsRow_nil _ _ _ _,Below.refl _ _⟩
 case round =>
  obtain ⟨i,rfl,tP,cE,h_⟩:=hrel
  by_cases qo:i<n
  ·obtain ⟨b,off,rfl,hb,hc⟩:=HA.out wr h_ (by intro e;rw [e] at hlen;simp at hlen;omega)
   have q0:=hc i (by omega)
   have oK:=hs i qo
   have htake:=strsV_take A i (by omega)
   have Ht:Hid (fH (A.take (i+1))=fH (A.take i)++[.string (A.getD i ByteArray.empty)]):=htake
   clear hc hs htake
   generalize A.getD i ByteArray.empty=x at *
   go_wp2_with fail
   refine (clone_any x _ (by omega)).mono ?_
   rintro e w1 ⟨rfl,a_⟩
   have kR:=dw cE (w':=w1) fun k hk=>a_.block k (cE.lt k hk).2
   have lh:=h_.tr a_
   have hws:=lh.size
   go_wp2_with (at_builtin;refine wpList_append_own _ rfl _ _ 31 rfl w.heap.size 9 i0 _ 1 16 Tryz.underlying31 hi lr iU lu rfl (by decide) _ _ _ rfl (kR.alloc _) ⟨w1.heap.size,0,none⟩ 1 1 [.string x] rfl rfl ?c1 ?c2 ?c3 ?c4 ?c5 ?_)
   case c1=>exact cell_one_new w1 _ _
   case c2=>simp [Value.oneCell']
   case c3=>unfold maxLen;omega
   case c4=>omega
   case c5=>simp;omega
   intro v' w2 dm bz _
   have cB:Below w.heap.size w w2:=(lh.al _).grown bz (Nat.le_trans lh.size (by simp)) (fun k e=>(kR.lt k e).1)
   go_wp2_with fail
   go_roundw
   case rel=>exact ⟨i+1,by go_num,by omega,by rw [Ht.out];exact dm,cB⟩
   case measure=>simp only [intOf];omega
  ·obtain rfl:i=n:=by omega
   rw [List.take_of_length_le (by omega)] at cE
   go_wp2_with fail
   go_ret
   exact ⟨_,rfl,cE,h_⟩
theorem qV (ea:Option Addr) (n cap:Nat) (w:World) (cW:n<=cap):Calls Tryz.prog 130 #[.slice ea n cap,.int .i64 0,.int .i64 0] w fun e w'=>e=.returned (.slice ea n cap)/\w'=w:=by
 go_enter Tryz.func130,Tryz.ntmps130
 go_wp2_with fail
 go_ret
 exact ⟨rfl,rfl⟩
structure EvT (w:World) (c:bx):Prop where
 so:∀ a,c.so=some a->∃ cs m,w.heap[a.block]? = some (.cells cs 4 m)
 ao:∀ a,c.ao=some a->∃ cs m,w.heap[a.block]? = some (.cells cs 9 m)
theorem EvT.off {w:World} {c:bx} {g:Nat} {cg:Array Value} {m:Nat×Nat} (h:EvT w c) (hg:w.heap[g]? = some (.cells cg 159 m)):EvOff g c :=
 ⟨fun a ha e=>(by obtain ⟨cs,m,h1⟩:=h.so a ha;rw [e,hg] at h1;cases h1),fun a ha e=>(by obtain ⟨cs,m,h1⟩:=h.ao a ha;rw [e,hg] at h1;cases h1)⟩
structure aY (P:Nat->Prop) (w w':World):Prop where
 os:w'.os=w.os
 tape:w'.tape=w.tape
 output:w'.output=w.output
 size:w.heap.size<=w'.heap.size
 block:∀ b,b<w.heap.size->¬ P b->w'.heap[b]? = w.heap[b]?
theorem aY.trans {P:Nat->Prop} {a b c:World} (h:aY P a b) (k:aY P b c):aY P a c:=⟨k.os.trans h.os,k.tape.trans h.tape,k.output.trans h.output,Nat.le_trans h.size k.size,fun x hx hp=>(k.block x (Nat.lt_of_lt_of_le hx h.size) hp).trans (h.block x hx hp)⟩
theorem aY.aL {P:Nat->Prop} {a b:World} (h:Below a.heap.size a b):aY P a b:=⟨h.os,h.tape,h.output,h.size,fun x hx _=>h.block x hx⟩
theorem aY.kg {P:Nat->Prop} {g:Nat} {a b:World} (h:Only g a b) (hP:∀ x,x=g->P x):aY P a b:=⟨h.os,h.tape,h.output,h.size,fun x hx hp=>h.block x hx fun e=>hp (hP x e)⟩
theorem aY.mono {P Q:Nat->Prop} {a b:World} (h:aY P a b) (hP:∀ x,x<a.heap.size->P x->Q x):aY Q a b:=⟨h.os,h.tape,h.output,h.size,fun x hx hq=>h.block x hx fun e=>hq (hP x hx e)⟩
theorem aY.of_grown {P:Nat->Prop} {row:Option Nat} {a b:World} (h:a.grownBy b row) (hP:∀ x,row=some x->P x):aY P a b:=⟨h.os,h.tape,h.output,h.size,fun x hx hp=>h.block x hx fun e=>hp (hP x e.symm)⟩
theorem cZ.spare {P:Nat->Prop} {w w':World} {c:bx} {e:Pe} (h:cZ w c e) (hs:aY P w w') (h1:∀ a,c.so=some a->¬ P a.block) (h2:∀ a,c.ao=some a->¬ P a.block):cZ w' c e:=by
 obtain ⟨sb,s1,s2,s3⟩:=h.so
 refine { h with so:=⟨sb,s1,Nat.lt_of_lt_of_le s2 hs.size,fun j b hj=>?_⟩,atoms:=fun hne=>?_ }
 ·rw [World.cell?_of_block (hs.block sb s2 (h1 _ s1))];exact s3 j b hj
 ·obtain ⟨b,off,a1,a2,a3⟩:=h.atoms hne
  exact ⟨b,off,a1,Nat.lt_of_lt_of_le a2 hs.size,fun j hj=>by rw [World.cell?_of_block (hs.block b a2 (h2 _ a1))];exact a3 j hj⟩
theorem EvT.spare {P:Nat->Prop} {w w':World} {c:bx} (h:EvT w c) (hs:aY P w w') (h1:∀ a,c.so=some a->¬ P a.block) (h2:∀ a,c.ao=some a->¬ P a.block):EvT w' c :=
 ⟨fun a ha=>by obtain ⟨cs,m,k⟩:=h.so a ha;exact ⟨cs,m,by rw [hs.block _ (aw k) (h1 a ha)];exact k⟩,fun a ha=>by obtain ⟨cs,m,k⟩:=h.ao a ha;exact ⟨cs,m,by rw [hs.block _ (aw k) (h2 a ha)];exact k⟩⟩
theorem eB.spare {P:Nat->Prop} {w w':World} {no:Option Addr} {K:List Key} (h:eB w no K) (hs:aY P w w') (h1:∀ a,no=some a->¬ P a.block):eB w' no K:=fun hne=>by
 obtain ⟨nb,a1,a2,a3⟩:=h hne
 have hc:∀ q,w'.cell? ⟨nb,q,none⟩=w.cell? ⟨nb,q,none⟩:=fun q=>World.cell?_of_block (hs.block nb a2 (h1 _ a1))
 exact ⟨nb,a1,Nat.lt_of_lt_of_le a2 hs.size,fun i k hk=>by simp only [hc];exact a3 i k hk⟩
theorem oM:(Tryz.prog.info? 159).map (fun i=>(i.zero,i.size,i.bytes))=some (some (.agg #[.int .i64 0,.int .i64 0,.slice none 0 0,.slice none 0 0]),4,64):=by kernel_rfl
theorem mL (C:List bx) (c:bx):dk (C++[c])=dk C++bf c:=by simp [dk]
theorem evOne (c:bx):∀ u∈bf c,u.oneCell'=true:=by
 intro u hu
 simp [bf,bx.av,bx.sv] at hu
 rcases hu with rfl | rfl | rfl | rfl<;>rfl
theorem ei (w:World) (c:bx) (t:TypeId):∀ j u,(bf c)[j]? = some u->(w.alloc (.cells #[.int .i64 c.number,.int .i64 c.time,.slice c.ao c.al c.ac,.slice c.so c.sl c.sc] t)).cell? ((⟨w.heap.size,0,none⟩:Addr).add j)=some u:=by
 intro j u hj
 have hh:=aB w (.cells #[.int .i64 c.number,.int .i64 c.time,.slice c.ao c.al c.ac,.slice c.so c.sl c.sc] t (0,0)) _ rfl
 have e1:(⟨w.heap.size,0,none⟩:Addr).add j=⟨w.heap.size,j,none⟩:=by simp [Addr.add];omega
 rw [e1]
 refine ae hh ?_
 rcases j with _ | _ | _ | _ | j
 ·exact hj
 ·exact hj
 ·exact hj
 ·exact hj
 ·simp [bf] at hj
def eQ (C:List bx):Int:=match C.getLast? with
 | some c=>c.number+1
 | none=>1
noncomputable def tA:Code:=Tryz.f87.body.getD .skip
noncomputable def opsT5:Array Oper:=match tA with
 | .seq _ (.seq _ (.seq _ (.seq (.region _ x _) _)))=>x
 | _=>#[]
noncomputable def opsT6:Array Oper:=match tA with
 | .seq _ (.seq _ (.seq _ (.seq _ (.seq (.region _ x _) _))))=>x
 | _=>#[]
set_option maxRecDepth 100000 in
set_option maxHeartbeats 8000000 in
theorem region5_any (Q:Exit->Act->World->Prop) (hQ:∀ c a d v w,Q (.panic c) (Act.put a d v) w->Q (.panic c) a w) (aj nx:Nat) (ai:Int) (rm nvv:Value) (ea:Option Addr) (az:Nat) (pv:Value) (C:List bx) (num time:Int) (eJ:Option Addr) (kQ fc:Nat) (W:World) (x2 x3 x4 x5 x6 x8 x9 kX lD lF lG lH lI lJ lK lM lN lO lQ lR lU lV lW lX nk nt nu nw u31 u32 ki jH jI jJ jK jL jM jN u41 u42 u43 u44 u45 u46 u47 u48 u49 u50 u51 u52 u53:Value)
  (hw:W.heap[aj]? = some (.cells #[.int .i64 ai,rm,nvv,.slice ea C.length az,pv] 153 (0,0))) (hE:bY W (.slice ea C.length az) C) (hn:C.length<=1000) (cW:C.length<=az) (ht:0<=time/\time<=1000000000000) (hr:0<=ai/\ai<=1000000000) (hold:nj (time-ai) C=0)
  (nh:W.heap[nx]? = some (.cells #[.int .i64 num,.int .i64 time,.slice eJ kQ fc,.slice none 0 0] 159 (0,0))) (hnxe:(Value.slice ea C.length az).ownBlock≠some nx)
  (hK:∀ (nT:Value) (W':World) (v41:Value),W'.heap[aj]? = some (.cells #[.int .i64 ai,rm,nvv,nT,pv] 153 (0,0))->bY W' nT (C++[(⟨num,time,eJ,kQ,fc,none,0,0⟩:bx)])->aY (fun b=>b=aj\/(Value.slice ea C.length az).ownBlock=some b) W W'->(∀ b,nT.ownBlock=some b->(Value.slice ea C.length az).ownBlock=some b\/W.heap.size<=b)->
   Q .normal ⟨#[(.pointer (some ⟨aj,0,none⟩)),(.int .i64 time),x2,x3,x4,x5,x6,(.pointer (some ⟨nx,0,none⟩)),x8,x9,kX,lD,lF,lG,lH,lI,lJ,lK,lM,lN,lO,lQ,lR,lU,lV,lW,lX,nk,nt,nu,nw,(.pointer (some ⟨aj,0,none⟩)),(.pointer (some ⟨aj,0,none⟩)),(.pointer (some ⟨aj,0,none⟩)),(.pointer (some ⟨aj,3,none⟩)),(.slice ea C.length az),(.pointer (some ⟨aj,0,none⟩)),(.int .i64 time),(.int .i64 0),(.slice ea C.length az),(.agg #[.int .i64 num,.int .i64 time,.slice eJ kQ fc,.slice none 0 0]),v41,nT,(.pointer (some ⟨aj,0,none⟩)),(.pointer (some ⟨aj,3,none⟩)),u45,u46,u47,u48,u49,u50,u51,u52,u53],[]⟩ W') :
  (Code.region 5 opsT5 true).wp Tryz.prog Q ⟨#[(.pointer (some ⟨aj,0,none⟩)),(.int .i64 time),x2,x3,x4,x5,x6,(.pointer (some ⟨nx,0,none⟩)),x8,x9,kX,lD,lF,lG,lH,lI,lJ,lK,lM,lN,lO,lQ,lR,lU,lV,lW,lX,nk,nt,nu,nw,u31,u32,ki,jH,jI,jJ,jK,jL,jM,jN,u41,u42,u43,u44,u45,u46,u47,u48,u49,u50,u51,u52,u53],[]⟩ W:=by
 have cz:=aw hw
 have hnl:=aw nh
 obtain ⟨i0,hi,lr,iU,lu⟩:=info_parts oM
 have HO:Hid (∀ w',Below W.heap.size W w'->Calls Tryz.prog 131 #[.pointer (some ⟨aj,0,none⟩),.int .i64 time] w' fun e w''=>e=.returned (.int .i64 0)/\Below w'.heap.size w' w''):=fun w' hb=>by
  have:=old_any aj ai rm nvv (.slice ea C.length az) pv C time w' (hb.aE hw) (hE.below hb) (by omega) ht hr
  rw [hold] at this
  exact this
 have kj:Hid (∀ w',Below W.heap.size W w'->(fun w'=>w'.cell? ⟨aj,3,none⟩=some (.slice ea C.length az)/\w'.cell? ⟨nx,0,none⟩=some (.int .i64 num)/\w'.cell? ⟨nx,1,none⟩=some (.int .i64 time)/\w'.cell? ⟨nx,2,none⟩=some (.slice eJ kQ fc)/\w'.cell? ⟨nx,3,none⟩=some (.slice none 0 0)) w'):=fun w' hb=>⟨ae (hb.aE hw) rfl,ae (hb.aE nh) rfl,ae (hb.aE nh) rfl,ae (hb.aE nh) rfl,ae (hb.aE nh) rfl⟩
 have hZ:=kj.out _ (Below.refl _ W).drew
 have vP:∀ (V:World) (sl:Nat),Below W.heap.size W V->(∀ j u,(bf (⟨num,time,eJ,kQ,fc,none,0,0⟩:bx))[j]? = some u->V.cell? ((⟨sl,0,none⟩:Addr).add j)=some u)->
   bh Tryz.prog .any opsT5 Q (fun w'=>w'.cell? ⟨aj,3,none⟩=some (.slice ea C.length az)/\w'.cell? ⟨nx,0,none⟩=some (.int .i64 num)/\w'.cell? ⟨nx,1,none⟩=some (.int .i64 time)/\w'.cell? ⟨nx,2,none⟩=some (.slice eJ kQ fc)/\w'.cell? ⟨nx,3,none⟩=some (.slice none 0 0)) 14 4 #[true,true,true,true,true,true,true,true,true,true,true,false,false,false,false] ⟨#[(.pointer (some ⟨aj,0,none⟩)),(.int .i64 time),x2,x3,x4,x5,x6,(.pointer (some ⟨nx,0,none⟩)),x8,x9,kX,lD,lF,lG,lH,lI,lJ,lK,lM,lN,lO,lQ,lR,lU,lV,lW,lX,nk,nt,nu,nw,(.pointer (some ⟨aj,0,none⟩)),(.pointer (some ⟨aj,0,none⟩)),(.pointer (some ⟨aj,0,none⟩)),(.pointer (some ⟨aj,3,none⟩)),(.slice ea C.length az),(.pointer (some ⟨aj,0,none⟩)),(.int .i64 time),(.int .i64 0),(.slice ea C.length az),(.agg #[.int .i64 num,.int .i64 time,.slice eJ kQ fc,.slice none 0 0]),(.slice (some ⟨sl,0,none⟩) 1 1),u42,u43,u44,u45,u46,u47,u48,u49,u50,u51,u52,u53],[]⟩ V:=by
  intro V sl hbV hcell
  have hwV:=hbV.aE hw
  have hnV:=hbV.aE nh
  have hEV:=hE.below hbV
  simp only [opsT5,tA,Tryz.f87,Option.getD_some]
  refine bh.one (i:=11) (by decide +kernel) rfl (by rfl) (wp_append_own (.tmp 39) (.tmp 41) 146 rfl 0 159 i0 _ 4 64 Tryz.underlying146 hi lr iU lu rfl (by decide) (.slice ea C.length az) C.length (dk C) rfl hEV ⟨sl,0,none⟩ 1 1 (bf (⟨num,time,eJ,kQ,fc,none,0,0⟩:bx)) rfl rfl hcell (evOne _) (by unfold maxLen;omega) (by omega) (Nat.zero_le _) ?_)
  intro v' w2 dm bz hor
  obtain ⟨g2,c2,rfl⟩:=ownsRow_succ dm
  have hneV:∀ b,(Value.slice ea C.length az).ownBlock=some b->∃ cs,V.heap[b]? = some (.cells cs 159 (0,0)):=fun b hb=>dG hEV hb
  have hwt2:w2.heap[aj]? = some (.cells #[.int .i64 ai,rm,nvv,.slice ea C.length az,pv] 153 (0,0)):=by
   rw [bz.block aj (aw hwV) (fun e=>by obtain ⟨cs,h1⟩:=hneV aj e.symm;rw [hwV] at h1;cases h1)];exact hwV
  have r_:w2.cell? ⟨aj,3,none⟩=some (.slice ea C.length az):=ae hwt2 rfl
  have hf3:w2.frozen? ⟨aj,3,none⟩=false:=Lib.frozen_of_heap hwt2 _
  have hnx2:w2.heap[nx]? = some (.cells #[.int .i64 num,.int .i64 time,.slice eJ kQ fc,.slice none 0 0] 159 (0,0)):=by
   rw [bz.block nx (aw hnV) (fun e=>hnxe e.symm)];exact hnV
  have hS2:(fun w'=>w'.cell? ⟨aj,3,none⟩=some (.slice ea C.length az)/\w'.cell? ⟨nx,0,none⟩=some (.int .i64 num)/\w'.cell? ⟨nx,1,none⟩=some (.int .i64 time)/\w'.cell? ⟨nx,2,none⟩=some (.slice eJ kQ fc)/\w'.cell? ⟨nx,3,none⟩=some (.slice none 0 0)) w2:=⟨r_,ae hnx2 rfl,ae hnx2 rfl,ae hnx2 rfl,ae hnx2 rfl⟩
  refine ⟨fun _=>hS2,?_⟩
  try walk_nrm
  refine bh.op (i:=12) (by decide +kernel) rfl (by rfl) (fun K' hK'=>?_)
  unfold Oper.wp
  go_simp
  refine hK' _ _ ⟨fun _=>hS2,?_⟩
  clear hK' K'
  try walk_nrm
  refine bh.op (i:=13) (by decide +kernel) rfl (by rfl) (fun K' hK'=>?_)
  unfold Oper.wp
  go_simp
  refine hK' _ _ ⟨fun _=>hS2,?_⟩
  clear hK' K'
  try walk_nrm
  refine bh.op (i:=14) (by decide +kernel) rfl (by rfl) (fun K' hK'=>?_)
  unfold Oper.wp
  go_simp
  refine hK' _ _ ⟨fun x=>absurd rfl x,?_⟩
  clear hK' K'
  refine bh.done (by decide +kernel) ?_ _
  try walk_nrm
  have hg2:g2≠aj:=by
   rintro rfl
   obtain ⟨_,⟨h2,_⟩ | ⟨g',mq,cur,e1,_,e2,_⟩⟩:=dm
   ·cases h2
   ·cases e1;rw [hwt2] at e2;cases e2
  refine hK (.slice (some ⟨g2,0,none⟩) (C.length+1) c2) _ _ (b7 (i:=3) hwt2) ?_ ?_ ?_
  ·show World.ownsRow _ 0 159 4 _ _ _
   have el:(C++[(⟨num,time,eJ,kQ,fc,none,0,0⟩:bx)]).length=C.length+1:=by simp
   rw [el,mL]
   exact dw dm fun b hbb=>Below.heap_setCell _ _ _ _ (by cases hbb;exact hg2)
  ·have s1:aY (fun b=>b=aj\/(Value.slice ea C.length az).ownBlock=some b) W w2:=(aY.aL hbV).trans (aY.of_grown bz (fun x hx=>.inr hx))
   exact s1.trans (aY.kg ((Only.refl aj w2).setCell (p:=⟨aj,3,none⟩) (.inl rfl) _) (fun x hx=>.inl hx))
  ·intro b hb
   rcases hor with e | e
   ·exact .inl (e▸hb)
   ·rw [e] at hb;cases hb;exact .inr hbV.size
 simp only [opsT5,tA,Tryz.f87,Option.getD_some] at vP ⊢
 refine bh.begin (S:=(fun w'=>w'.cell? ⟨aj,3,none⟩=some (.slice ea C.length az)/\w'.cell? ⟨nx,0,none⟩=some (.int .i64 num)/\w'.cell? ⟨nx,1,none⟩=some (.int .i64 time)/\w'.cell? ⟨nx,2,none⟩=some (.slice eJ kQ fc)/\w'.cell? ⟨nx,3,none⟩=some (.slice none 0 0))) (fin:=14) (by kernel_rfl) ?_
 simp only [List.size_toArray,List.length_cons,List.length_nil,Nat.reduceAdd,Nat.zero_add]
 refine bh.take 0 (v:=?vq0) rfl (by decide +kernel) (by decide +kernel) (by decide +kernel) (by decide +kernel) (fun c a w h=>hQ c a _ _ w h) (by rfl) (fun w' hS=>Go.Conc.run_eq_of ?rq0) hZ ?_
 case rq0 =>
  intro K' hK'
  obtain ⟨y1,y2,y3,y4,y5⟩:=hS
  go_simp
  exact hK'
 try walk_nrm
 refine bh.take 1 (v:=?vq1) rfl (by decide +kernel) (by decide +kernel) (by decide +kernel) (by decide +kernel) (fun c a w h=>hQ c a _ _ w h) (by rfl) (fun w' hS=>Go.Conc.run_eq_of ?rq1) hZ ?_
 case rq1 =>
  intro K' hK'
  obtain ⟨y1,y2,y3,y4,y5⟩:=hS
  go_simp
  exact hK'
 try walk_nrm
 refine bh.take 2 (v:=?vq2) rfl (by decide +kernel) (by decide +kernel) (by decide +kernel) (by decide +kernel) (fun c a w h=>hQ c a _ _ w h) (by rfl) (fun w' hS=>Go.Conc.run_eq_of ?rq2) hZ ?_
 case rq2 =>
  intro K' hK'
  obtain ⟨y1,y2,y3,y4,y5⟩:=hS
  go_simp
  exact hK'
 try walk_nrm
 refine bh.take 3 (v:=?vq3) rfl (by decide +kernel) (by decide +kernel) (by decide +kernel) (by decide +kernel) (fun c a w h=>hQ c a _ _ w h) (by rfl) (fun w' hS=>Go.Conc.run_eq_of ?rq3) hZ ?_
 case rq3 =>
  intro K' hK'
  obtain ⟨y1,y2,y3,y4,y5⟩:=hS
  go_simp
  exact hK'
 try walk_nrm
 refine bh.take 4 (v:=?vq4) rfl (by decide +kernel) (by decide +kernel) (by decide +kernel) (by decide +kernel) (fun c a w h=>hQ c a _ _ w h) (by rfl) (fun w' hS=>Go.Conc.run_eq_of ?rq4) hZ ?_
 case rq4 =>
  intro K' hK'
  obtain ⟨y1,y2,y3,y4,y5⟩:=hS
  go_simp
  exact hK'
 try walk_nrm
 refine bh.take 5 (v:=?vq5) rfl (by decide +kernel) (by decide +kernel) (by decide +kernel) (by decide +kernel) (fun c a w h=>hQ c a _ _ w h) (by rfl) (fun w' hS=>Go.Conc.run_eq_of ?rq5) hZ ?_
 case rq5 =>
  intro K' hK'
  obtain ⟨y1,y2,y3,y4,y5⟩:=hS
  go_simp
  exact hK'
 try walk_nrm
 refine bh.take 6 (v:=?vq6) rfl (by decide +kernel) (by decide +kernel) (by decide +kernel) (by decide +kernel) (fun c a w h=>hQ c a _ _ w h) (by rfl) (fun w' hS=>Go.Conc.run_eq_of ?rq6) hZ ?_
 case rq6 =>
  intro K' hK'
  obtain ⟨y1,y2,y3,y4,y5⟩:=hS
  go_simp
  exact hK'
 try walk_nrm
 refine bh.take 9 (v:=?vq9) rfl (by decide +kernel) (by decide +kernel) (by decide +kernel) (by decide +kernel) (fun c a w h=>hQ c a _ _ w h) (by rfl) (fun w' hS=>Go.Conc.run_eq_of ?rq9) hZ ?_
 case rq9 =>
  intro K' hK'
  obtain ⟨y1,y2,y3,y4,y5⟩:=hS
  go_simp
  exact hK'
 try walk_nrm
 refine bh.two (i:=7) (j:=10) (by decide +kernel) rfl (by rfl) rfl (by rfl) (fun K' hK'=>?_) (fun K' hK'=>?_)
 ·unfold Oper.wp
  rw [Go.Conc.run_call_body (f:=131) (args:=#[.tmp 36,.tmp 37]) (ats:=#[232,3]) rfl Tryz.func131 (by decide) rfl]
  simp only [Oper.upon,List.map_toArray,List.map_cons,List.map_nil]
  change Calls Tryz.prog 131 #[.pointer (some ⟨aj,0,none⟩),.int .i64 time] W.drew _
  refine (HO.out W.drew (Below.refl W.heap.size W).drew).mono ?_
  rintro e w1 ⟨rfl,a_⟩
  replace a_:Below W.heap.size W w1:=((Below.refl W.heap.size W).drew).trans (a_.mono ((Below.refl W.heap.size W).drew).size)
  refine hK' _ _ ⟨fun _=>kj.out _ a_,?_⟩
  clear hK' K'
  try walk_nrm
  refine bh.two (i:=8) (j:=10) (by decide +kernel) rfl (by rfl) rfl (by rfl) (fun K' hK'=>?_) (fun K' hK'=>?_)
  ·unfold Oper.wp
   rw [Go.Conc.run_call_body (f:=130) (args:=#[.tmp 35,.const (.int .i64 0),.tmp 38]) (ats:=#[146,3,3]) rfl Tryz.func130 (by decide) rfl]
   simp only [Oper.upon,List.map_toArray,List.map_cons,List.map_nil]
   change Calls Tryz.prog 130 #[.slice ea C.length az,.int .i64 0,.int .i64 0] w1 _
   refine (qV ea C.length az w1 cW).mono ?_
   rintro e wd ⟨rfl,hwd⟩
   have hwd:=hwd.symm
   subst hwd
   refine hK' _ _ ⟨fun _=>kj.out _ (a_),?_⟩
   clear hK' K'
   try walk_nrm
   refine bh.op (i:=10) (by decide +kernel) rfl (by rfl) (fun K' hK'=>?_)
   unfold Oper.wp
   go_simp
   refine hK' _ _ ⟨fun _=>kj.out _ ((a_).al _),?_⟩
   clear hK' K'
   try walk_nrm
   exact vP _ w1.heap.size (a_.al _) (ei w1 (⟨num,time,eJ,kQ,fc,none,0,0⟩:bx) 159)
  ·unfold Oper.wp
   go_simp
   refine hK' _ _ ⟨fun _=>kj.out _ ((a_).al _),?_⟩
   clear hK' K'
   try walk_nrm
   refine bh.op (i:=8) (by decide +kernel) rfl (by rfl) (fun K' hK'=>?_)
   unfold Oper.wp
   rw [Go.Conc.run_call_body (f:=130) (args:=#[.tmp 35,.const (.int .i64 0),.tmp 38]) (ats:=#[146,3,3]) rfl Tryz.func130 (by decide) rfl]
   simp only [Oper.upon,List.map_toArray,List.map_cons,List.map_nil]
   change Calls Tryz.prog 130 #[.slice ea C.length az,.int .i64 0,.int .i64 0] (w1.alloc (.cells #[.int .i64 num,.int .i64 time,.slice eJ kQ fc,.slice none 0 0] 159)) _
   refine (qV ea C.length az (w1.alloc (.cells #[.int .i64 num,.int .i64 time,.slice eJ kQ fc,.slice none 0 0] 159)) cW).mono ?_
   rintro e wd ⟨rfl,hwd⟩
   have hwd:=hwd.symm
   subst hwd
   refine hK' _ _ ⟨fun _=>kj.out _ (a_.al _),?_⟩
   clear hK' K'
   try walk_nrm
   exact vP _ w1.heap.size (a_.al _) (ei w1 (⟨num,time,eJ,kQ,fc,none,0,0⟩:bx) 159)
 ·unfold Oper.wp
  go_simp
  refine hK' _ _ ⟨fun _=>kj.out _ (((Below.refl W.heap.size W).drew).al _),?_⟩
  clear hK' K'
  try walk_nrm
  refine bh.op (i:=7) (by decide +kernel) rfl (by rfl) (fun K' hK'=>?_)
  have hbA:Below W.heap.size W (W.drew.alloc (.cells #[.int .i64 num,.int .i64 time,.slice eJ kQ fc,.slice none 0 0] 159)):=((Below.refl _ W).drew.al _)
  unfold Oper.wp
  rw [Go.Conc.run_call_body (f:=131) (args:=#[.tmp 36,.tmp 37]) (ats:=#[232,3]) rfl Tryz.func131 (by decide) rfl]
  simp only [Oper.upon,List.map_toArray,List.map_cons,List.map_nil]
  change Calls Tryz.prog 131 #[.pointer (some ⟨aj,0,none⟩),.int .i64 time] (W.drew.alloc (.cells #[.int .i64 num,.int .i64 time,.slice eJ kQ fc,.slice none 0 0] 159)) _
  refine (HO.out (W.drew.alloc (.cells #[.int .i64 num,.int .i64 time,.slice eJ kQ fc,.slice none 0 0] 159)) hbA).mono ?_
  rintro e w1 ⟨rfl,a_⟩
  have hbB:=a_
  replace a_:Below W.heap.size W w1:=(hbA).trans (a_.mono (hbA).size)
  refine hK' _ _ ⟨fun _=>kj.out _ a_,?_⟩
  clear hK' K'
  try walk_nrm
  refine bh.op (i:=8) (by decide +kernel) rfl (by rfl) (fun K' hK'=>?_)
  unfold Oper.wp
  rw [Go.Conc.run_call_body (f:=130) (args:=#[.tmp 35,.const (.int .i64 0),.tmp 38]) (ats:=#[146,3,3]) rfl Tryz.func130 (by decide) rfl]
  simp only [Oper.upon,List.map_toArray,List.map_cons,List.map_nil]
  change Calls Tryz.prog 130 #[.slice ea C.length az,.int .i64 0,.int .i64 0] w1 _
  refine (qV ea C.length az w1 cW).mono ?_
  rintro e wd ⟨rfl,hwd⟩
  have hwd:=hwd.symm
  subst hwd
  refine hK' _ _ ⟨fun _=>kj.out _ (a_),?_⟩
  clear hK' K'
  try walk_nrm
  have hsl:W.heap.size<(W.drew.alloc (.cells #[.int .i64 num,.int .i64 time,.slice eJ kQ fc,.slice none 0 0] 159)).heap.size:=aw (aB W.drew (.cells #[.int .i64 num,.int .i64 time,.slice eJ kQ fc,.slice none 0 0] 159) W.heap.size rfl)
  refine vP _ W.heap.size a_ (fun j u hj=>?_)
  have h1:=ei W.drew (⟨num,time,eJ,kQ,fc,none,0,0⟩:bx) 159 j u hj
  have e1:(⟨W.heap.size,0,none⟩:Addr).add j=⟨W.heap.size,j,none⟩:=by simp [Addr.add];omega
  have e2:(⟨W.drew.heap.size,0,none⟩:Addr).add j=⟨W.heap.size,j,none⟩:=e1
  rw [e2] at h1
  rw [e1,hbB.cell (p:=⟨W.heap.size,j,none⟩) hsl]
  exact h1
theorem backL_list (L:List Pe) (d:Pe):cv (fun i=>L.getD i d) L.length=L.reverse:=by
 unfold cv
 rw [pB (fun i=>L.getD i d) _ _ (Nat.le_refl _)]
 apply List.ext_getElem?
 intro i
 by_cases hi:i<L.length
 ·simp [hi]
  have:L.length-1-i<L.length:=by omega
  simp [this]
 ·simp [hi]
theorem row_array {w:World} {base size n:Nat} {e:TypeId} {v:Value} {xs:List Value} (h:w.ownsRow base e size v n xs) {g cap:Nat} (hv:v=.slice (some ⟨g,0,none⟩) n cap):∃ cur,w.heap[g]? = some (.cells cur e (0,0))/\(∀ (j:Nat) (x:Value),xs[j]? = some x->cur[j]? = some x)/\n<=cap/\cap<=maxLen/\cur.size=cap*size/\cur.toList.take (n*size)=xs:=by
 obtain ⟨h1,⟨rfl,h2⟩ | ⟨g',mq,cur,e1,h3,h4,h5,h6,h7,h8⟩⟩:=h
 ·cases hv
 ·rw [hv] at e1
  cases e1
  refine ⟨cur,h4,fun j x hx=>?_,h5,h6,h7,h8⟩
  have hj:j<n*size:=by have:=(List.getElem?_eq_some_iff.1 hx).1;omega
  rw [<- h8,List.getElem?_take,if_pos hj] at hx
  rw [<- Array.getElem?_toList];exact hx
theorem flatE_set (C:List bx) (c:bx) (sb sl sc:Nat):(dk (C++[c])).set (C.length*4+3) (.slice (some ⟨sb,0,none⟩) sl sc)=dk (C++[c.cC sb sl sc]):=by
 have hl:(dk C).length=C.length*4:=ft bf 4 (fun _=>rfl) C
 rw [mL,mL,List.set_append_right _ _ (by omega),hl]
 have:C.length*4+3-C.length*4=3:=by omega
 rw [this]
 rfl
set_option maxRecDepth 100000 in
set_option maxHeartbeats 8000000 in
theorem rO (Q:Exit->Act->World->Prop) (hQ:∀ c a d v w,Q (.panic c) (Act.put a d v) w->Q (.panic c) a w) (aj rb g iw:Nat) (r1 r2:Value) (no:Option Addr) (aI:Nat) (K:List Key) (pv:Value) (C:List bx) (od:bx) (E:List Pe) (pe:Pe) (W:World) (x1 x2 x3 x4 x5 x7 x8 x9 kX lD lF lG lH lI lJ lK lM lN lO lQ lR lU lV lW lX nk nt nu nw qE x32 x33 x34 x35 x36 x37 x38 x39 x40 x41 x42 x43 x44 u45 u46 u47 u48 u49 u50 u51 u52 u53:Value)
  (hw:W.heap[aj]? = some (.cells #[r1,r2,.slice no K.length aI,.slice (some ⟨g,0,none⟩) (C.length+1) iw,pv] 153 (0,0))) (hE:bY W (.slice (some ⟨g,0,none⟩) (C.length+1) iw) (C++[od])) (hn:C.length<=1000) (hlen:C.length=E.length)
  (hIn:∀ (i:Nat) c e,C[i]? = some c->E[i]? = some e->cZ W c e) (hT:∀ c∈C,EvT W c) (hM:qh W od pe) (hMt:∀ a,od.ao=some a->∃ cs m,W.heap[a.block]? = some (.cells cs 9 m)) (hK:K.length<=1000) (hnc:K.length<=aI) (hN:eB W no K) (hNt:∀ a,no=some a->∃ cs m,W.heap[a.block]? = some (.cells cs 226 m)) (aN:∀ k∈K,ib k.op) (hAh:qg K) (bT:∀ e∈E,e.so.length=K.length+1)
  (qx:W.heap[rb]? = some (.cells #[.int .i64 0,.int .i64 0,.slice none 0 0,.slice none 0 0] 159 (0,0))) (hrg:rb≠g)
  (hk:∀ (sb sc:Nat) (cur:Array Value) (W':World),W.heap.size<=sb->W'.heap[sb]? = some (.cells cur 4 (0,0))->aY (fun b=>b=g\/b=rb) W W'->bY W' (.slice (some ⟨g,0,none⟩) (C.length+1) iw) (C++[od.cC sb (K.length+1) sc])->cZ W' (od.cC sb (K.length+1) sc) (b9 E.reverse K pe.bare)->
   W'.heap[rb]? = some (.cells #[.int .i64 od.number,.int .i64 od.time,.slice od.ao od.al od.ac,.slice (some ⟨sb,0,none⟩) (K.length+1) sc] 159 (0,0))->Q .normal ⟨#[(.pointer (some ⟨aj,0,none⟩)),x1,x2,x3,x4,x5,(.pointer (some ⟨rb,0,none⟩)),x7,x8,x9,kX,lD,lF,lG,lH,lI,lJ,lK,lM,lN,lO,lQ,lR,lU,lV,lW,lX,nk,nt,nu,nw,qE,x32,x33,x34,x35,x36,x37,x38,x39,x40,x41,x42,x43,x44,(.pointer (some ⟨aj,0,none⟩)),(.pointer (some ⟨aj,0,none⟩)),(.pointer (some ⟨aj,2,none⟩)),(.slice no K.length aI),(.pointer (some ⟨aj,0,none⟩)),(.pointer (some ⟨aj,0,none⟩)),(.pointer (some ⟨aj,3,none⟩)),(.slice (some ⟨g,0,none⟩) (C.length+1) iw),(gv (od.cC sb (K.length+1) sc))],[]⟩ W') :
  (Code.region 6 opsT6 true).wp Tryz.prog Q ⟨#[(.pointer (some ⟨aj,0,none⟩)),x1,x2,x3,x4,x5,(.pointer (some ⟨rb,0,none⟩)),x7,x8,x9,kX,lD,lF,lG,lH,lI,lJ,lK,lM,lN,lO,lQ,lR,lU,lV,lW,lX,nk,nt,nu,nw,qE,x32,x33,x34,x35,x36,x37,x38,x39,x40,x41,x42,x43,x44,u45,u46,u47,u48,u49,u50,u51,u52,u53],[]⟩ W:=by
 have cz:=aw hw
 have el:(C++[od]).length=C.length+1:=by simp
 have hE':World.ownsRow W 0 159 4 (.slice (some ⟨g,0,none⟩) (C.length+1) iw) (C.length+1) (dk (C++[od])):=by
  have h0:=hE
  unfold bY at h0
  rw [el] at h0
  exact h0
 obtain ⟨cg,hg,hcg,hgc,hgm,hgs,hgt⟩:=row_array hE' rfl
 have hW:Calls Tryz.prog 132 #[.slice no K.length aI,.slice (some ⟨g,0,none⟩) (C.length+1) iw] W.drew fun e W'=>∃ sb sc cur,e=.returned (gv (od.cC sb (K.length+1) sc))/\W.heap.size<=sb/\Only g W W'/\
   W'.heap[g]? = some (.cells (cg.setIfInBounds (C.length*4+3) (.slice (some ⟨sb,0,none⟩) (K.length+1) sc)) 159 (0,0))/\W'.heap[sb]? = some (.cells cur 4 (0,0))/\cZ W' (od.cC sb (K.length+1) sc) (b9 E.reverse K pe.bare):=by
  have hbd:Below W.heap.size W W.drew:=(Below.refl _ W).drew
  have sa:(C++[od]).getD C.length od=od:=by simp
  have hem:(E++[pe]).getD C.length pe=pe:=by rw [hlen];simp
  have hci:∀ i,i<C.length->∃ c e,(C++[od]).getD i od=c/\(E++[pe]).getD i pe=e/\C[i]? = some c/\E[i]? = some e:=fun i hi=>by
   have h1:i<E.length:=by omega
   exact ⟨C[i],E[i],by rw [List.getD_eq_getElem?_getD,List.getElem?_append_left hi,List.getElem?_eq_getElem hi];rfl,by rw [List.getD_eq_getElem?_getD,List.getElem?_append_left h1,List.getElem?_eq_getElem h1];rfl,List.getElem?_eq_getElem hi,List.getElem?_eq_getElem h1⟩
  have:=workOut_any no aI K g iw C.length cg (fun i=>(C++[od]).getD i od) (fun i=>(E++[pe]).getD i pe) W.drew (by omega) hgc hK hnc hg ?_ (fun hne=>hN hne) ?_ aN hAh ?_ ?_ ?_ (by simp only [sa,hem];exact ⟨hM.number,hM.time,hM.low,hM.al,hM.alen,hM.atoms⟩) ?_
  ·simp only [sa,hem] at this
   have hb:cv (fun i=>(E++[pe]).getD i pe) C.length=E.reverse:=by
    rw [qO (F:=fun i=>E.getD i pe) (fun i hi=>by
     have h1:i<E.length:=by omega
     show (E++[pe]).getD i pe=E.getD i pe
     rw [List.getD_eq_getElem?_getD,List.getElem?_append_left h1,<- List.getD_eq_getElem?_getD]),hlen]
    exact backL_list E pe
   rw [hb] at this
   refine this.mono ?_
   rintro e W' ⟨sb,sc,cur,h1,h2,h3,h4,h5,h6⟩
   exact ⟨sb,sc,cur,h1,h2,⟨h3.os,h3.tape,h3.output,h3.size,h3.block⟩,h4,h5,h6⟩
  ·intro i k v hi hv
   have hc:(C++[od])[i]? = some ((C++[od]).getD i od):=by
    have:i<(C++[od]).length:=by omega
    rw [List.getD_eq_getElem?_getD,List.getElem?_eq_getElem this];rfl
   exact hcg _ _ (kn bf 4 (fun _=>rfl) (C++[od]) i k _ v hc hv)
  ·intro a ha e
   obtain ⟨cs,m,h1⟩:=hNt a ha
   rw [e,hg] at h1;cases h1
  ·intro i hi
   obtain ⟨c,e,h1,h2,h3,h4⟩:=hci i hi
   simp only [h1,h2]
   exact (hIn i c e h3 h4).below hbd
  ·intro i hi
   obtain ⟨c,e,h1,h2,h3,h4⟩:=hci i hi
   simp only [h2]
   exact bT e (List.mem_of_getElem? h4)
  ·intro i hi
   obtain ⟨c,e,h1,h2,h3,h4⟩:=hci i hi
   simp only [h1]
   exact (hT c (List.mem_of_getElem? h3)).off hg
  ·simp only [sa]
   intro a ha e
   obtain ⟨cs,m,h1⟩:=hMt a ha
   rw [e,hg] at h1;cases h1
 have kj:Hid (∀ w',Only g W w'->(fun w'=>w'.cell? ⟨aj,2,none⟩=some (.slice no K.length aI)/\w'.cell? ⟨aj,3,none⟩=some (.slice (some ⟨g,0,none⟩) (C.length+1) iw)) w'):=fun w' ho=>by
  have hwg:aj≠g:=by rintro rfl;rw [hw] at hg;cases hg
  have h1:=ho.heap hw hwg
  exact ⟨ae h1 rfl,ae h1 rfl⟩
 have hZ:=kj.out _ (Only.refl g W).drew
 clear hIn hT hM hN hNt aN hAh bT hlen el
 simp only [opsT6,tA,Tryz.f87,Option.getD_some]
 refine bh.begin (S:=(fun w'=>w'.cell? ⟨aj,2,none⟩=some (.slice no K.length aI)/\w'.cell? ⟨aj,3,none⟩=some (.slice (some ⟨g,0,none⟩) (C.length+1) iw))) (fin:=9) (by kernel_rfl) ?_
 simp only [List.size_toArray,List.length_cons,List.length_nil,Nat.reduceAdd,Nat.zero_add]
 refine bh.take 0 (v:=?vq0) rfl (by decide +kernel) (by decide +kernel) (by decide +kernel) (by decide +kernel) (fun c a w h=>hQ c a _ _ w h) (by rfl) (fun w' hS=>Go.Conc.run_eq_of ?rq0) hZ ?_
 case rq0 =>
  intro K' hK'
  obtain ⟨y1,y2⟩:=hS
  go_simp
  exact hK'
 try walk_nrm
 refine bh.take 1 (v:=?vq1) rfl (by decide +kernel) (by decide +kernel) (by decide +kernel) (by decide +kernel) (fun c a w h=>hQ c a _ _ w h) (by rfl) (fun w' hS=>Go.Conc.run_eq_of ?rq1) hZ ?_
 case rq1 =>
  intro K' hK'
  obtain ⟨y1,y2⟩:=hS
  go_simp
  exact hK'
 try walk_nrm
 refine bh.take 2 (v:=?vq2) rfl (by decide +kernel) (by decide +kernel) (by decide +kernel) (by decide +kernel) (fun c a w h=>hQ c a _ _ w h) (by rfl) (fun w' hS=>Go.Conc.run_eq_of ?rq2) hZ ?_
 case rq2 =>
  intro K' hK'
  obtain ⟨y1,y2⟩:=hS
  go_simp
  exact hK'
 try walk_nrm
 refine bh.take 3 (v:=?vq3) rfl (by decide +kernel) (by decide +kernel) (by decide +kernel) (by decide +kernel) (fun c a w h=>hQ c a _ _ w h) (by rfl) (fun w' hS=>Go.Conc.run_eq_of ?rq3) hZ ?_
 case rq3 =>
  intro K' hK'
  obtain ⟨y1,y2⟩:=hS
  go_simp
  exact hK'
 try walk_nrm
 refine bh.take 4 (v:=?vq4) rfl (by decide +kernel) (by decide +kernel) (by decide +kernel) (by decide +kernel) (fun c a w h=>hQ c a _ _ w h) (by rfl) (fun w' hS=>Go.Conc.run_eq_of ?rq4) hZ ?_
 case rq4 =>
  intro K' hK'
  obtain ⟨y1,y2⟩:=hS
  go_simp
  exact hK'
 try walk_nrm
 refine bh.take 5 (v:=?vq5) rfl (by decide +kernel) (by decide +kernel) (by decide +kernel) (by decide +kernel) (fun c a w h=>hQ c a _ _ w h) (by rfl) (fun w' hS=>Go.Conc.run_eq_of ?rq5) hZ ?_
 case rq5 =>
  intro K' hK'
  obtain ⟨y1,y2⟩:=hS
  go_simp
  exact hK'
 try walk_nrm
 refine bh.take 6 (v:=?vq6) rfl (by decide +kernel) (by decide +kernel) (by decide +kernel) (by decide +kernel) (fun c a w h=>hQ c a _ _ w h) (by rfl) (fun w' hS=>Go.Conc.run_eq_of ?rq6) hZ ?_
 case rq6 =>
  intro K' hK'
  obtain ⟨y1,y2⟩:=hS
  go_simp
  exact hK'
 try walk_nrm
 refine bh.take 7 (v:=?vq7) rfl (by decide +kernel) (by decide +kernel) (by decide +kernel) (by decide +kernel) (fun c a w h=>hQ c a _ _ w h) (by rfl) (fun w' hS=>Go.Conc.run_eq_of ?rq7) hZ ?_
 case rq7 =>
  intro K' hK'
  obtain ⟨y1,y2⟩:=hS
  go_simp
  exact hK'
 try walk_nrm
 refine bh.one (i:=8) (by decide +kernel) rfl (by rfl) ?_
 unfold Oper.wp
 rw [Go.Conc.run_call_body (f:=132) (args:=#[.tmp 48,.tmp 52]) (ats:=#[95,146]) rfl Tryz.func132 (by decide) rfl]
 simp only [Oper.upon,List.map_toArray,List.map_cons,List.map_nil]
 change Calls Tryz.prog 132 #[.slice no K.length aI,.slice (some ⟨g,0,none⟩) (C.length+1) iw] W.drew _
 refine hW.mono ?_
 rintro e W1 ⟨sb,sc,cur,rfl,hsb,hO,hg1,ng,tP⟩
 refine ⟨fun _=>kj.out _ hO,?_⟩
 try walk_nrm
 have hrb1:=hO.heap qx hrg
 have r0:=ae (i:=0) hrb1 rfl
 have r1':=ae (i:=1) hrb1 rfl
 have r2':=ae (i:=2) hrb1 rfl
 have r3':=ae (i:=3) hrb1 rfl
 have fz:∀ q,W1.frozen? ⟨rb,q,none⟩=false:=fun q=>Lib.frozen_of_heap hrb1 q
 refine bh.op (i:=9) (by decide +kernel) rfl (by rfl) (fun K' hK'=>?_)
 unfold Oper.wp
 simp only [gv,bx.cC]
 go_simp
 refine hK' _ _ ⟨fun x=>absurd rfl x,?_⟩
 clear hK' K'
 refine bh.done (by decide +kernel) ?_ _
 try walk_nrm
 have hR:=b7 (i:=3) (v:=.slice (some ⟨sb,0,none⟩) (K.length+1) sc) (b7 (i:=2) (v:=.slice od.ao od.al od.ac) (b7 (i:=1) (v:=.int .i64 od.time) (b7 (i:=0) (v:=.int .i64 od.number) hrb1)))
 simp only [List.setIfInBounds_toArray,List.set_cons_zero,List.set_cons_succ] at hR
 have hO4:Only rb W1 ((((W1.setCell ⟨rb,0,none⟩ (.int .i64 od.number)).setCell ⟨rb,1,none⟩ (.int .i64 od.time)).setCell ⟨rb,2,none⟩ (.slice od.ao od.al od.ac)).setCell ⟨rb,3,none⟩ (.slice (some ⟨sb,0,none⟩) (K.length+1) sc)):=((((Only.refl _ W1).setCell (p:=⟨rb,0,none⟩) (.inl rfl) _).setCell (p:=⟨rb,1,none⟩) (.inl rfl) _).setCell (p:=⟨rb,2,none⟩) (.inl rfl) _).setCell (p:=⟨rb,3,none⟩) (.inl rfl) _
 generalize ((((W1.setCell ⟨rb,0,none⟩ (.int .i64 od.number)).setCell ⟨rb,1,none⟩ (.int .i64 od.time)).setCell ⟨rb,2,none⟩ (.slice od.ao od.al od.ac)).setCell ⟨rb,3,none⟩ (.slice (some ⟨sb,0,none⟩) (K.length+1) sc))=W4 at hR hO4 ⊢
 have hrl:=aw qx
 refine hk sb sc cur W4 hsb (hO4.heap ng (by omega)) ⟨hO4.os.trans hO.os,hO4.tape.trans hO.tape,hO4.output.trans hO.output,Nat.le_trans hO.size hO4.size,fun b hb hp=>(hO4.block b (Nat.lt_of_lt_of_le hb hO.size) (fun e=>hp (.inr e))).trans (hO.block b hb (fun e=>hp (.inl e)))⟩ ?_ ?_ hR
 ·have el2:(C++[od.cC sb (K.length+1) sc]).length=C.length+1:=by simp
  show World.ownsRow _ 0 159 4 _ _ _
  rw [el2]
  refine ⟨by rw [dk,ft bf 4 (fun _=>rfl),el2],.inr ⟨g,iw,_,rfl,Nat.zero_le _,hO4.heap hg1 (Ne.symm hrg),hgc,hgm,by simpa using hgs,?_⟩⟩
  rw [<- flatE_set,<- hgt,Array.toList_setIfInBounds,List.take_set]
 ·refine tP.only ⟨fun a ha=>?_,fun a ha=>?_⟩ hO4
  ·have:some (⟨sb,0,none⟩:Addr)=some a:=ha
   cases this
   show sb≠rb
   omega
  ·intro e
   obtain ⟨cs,m,h1⟩:=hMt a ha
   rw [e,qx] at h1;cases h1
def TakePost (aj:Nat) (ai:Int) (rm:Value) (no:Option Addr) (aI:Nat) (K:List Key) (ea:Option Addr) (az:Nat) (pv:Value) (C:List bx) (E:List Pe) (time:Int) (A:List ByteArray) (w:World) (e:Ending) (W':World):Prop :=
 ∃ (c:bx) (nT:Value) (sb:Nat) (cur:Array Value),e=.returned (gv c)/\c.so=some ⟨sb,0,none⟩/\w.heap.size<=sb/\W'.heap[sb]? = some (.cells cur 4 (0,0))/\W'.heap[aj]? = some (.cells #[.int .i64 ai,rm,.slice no K.length aI,nT,pv] 153 (0,0))/\bY W' nT (C++[c])/\
  cZ W' c (b9 E.reverse K (⟨eQ C,time,A,[]⟩:Pe).bare)/\EvT W' c/\aY (fun b=>b=aj\/(Value.slice ea C.length az).ownBlock=some b) w W'/\(∀ b,nT.ownBlock=some b->(Value.slice ea C.length az).ownBlock=some b\/w.heap.size<=b)
set_option maxRecDepth 100000 in
set_option maxHeartbeats 8000000 in
theorem ky (aj:Nat) (ai:Int) (rm:Value) (no:Option Addr) (aI:Nat) (K:List Key) (ea:Option Addr) (az:Nat) (pv:Value) (C:List bx) (E:List Pe) (time:Int) (ao:Option Addr) (A:List ByteArray) (cap:Nat) (w:World)
  (hw:w.heap[aj]? = some (.cells #[.int .i64 ai,rm,.slice no K.length aI,.slice ea C.length az,pv] 153 (0,0))) (hE:bY w (.slice ea C.length az) C) (hlen:C.length=E.length) (hIn:∀ (i:Nat) c e,C[i]? = some c->E[i]? = some e->cZ w c e) (hT:∀ c∈C,EvT w c) (hn:C.length<=1000) (ht:0<=time/\time<=1000000000000) (hr:0<=ai/\ai<=1000000000) (hold:nj (time-ai) C=0)
  (lq:∀ c,C.getLast? = some c->0<=c.number/\c.number<=1000000000000) (h:eI w ao A) (hA:A.length<=1000) (cW:A.length<=cap) (hs:∀ j,j<A.length->(A.getD j ByteArray.empty).size<=1000)
  (hK:K.length<=1000) (hnc:K.length<=aI) (hN:eB w no K) (hNt:∀ a,no=some a->∃ cs m,w.heap[a.block]? = some (.cells cs 226 m)) (aN:∀ k∈K,ib k.op) (hAh:qg K) (bT:∀ e∈E,e.so.length=K.length+1) :
  Calls Tryz.prog 87 #[.pointer (some ⟨aj,0,none⟩),.int .i64 time,.slice ao A.length cap] w (TakePost aj ai rm no aI K ea az pv C E time A w):=by
 have cz:=aw hw
 have Hlen:Hid (C.length=E.length):=hlen
 clear hlen
 have r_:w.cell? ⟨aj,3,none⟩=some (.slice ea C.length az):=ae hw rfl
 have hecap:C.length<=az:=by
  rcases hE.cases with ⟨h1,rfl⟩ | ⟨g,cp,js,h1,_,_⟩
  ·simp
  ·cases js;exact h1
 have hCo:=copyOf_any ao A cap (w.alloc (.cells #[.int .i64 0,.int .i64 0,.slice none 0 0,.slice none 0 0] 159)) (h.below ((Below.refl _ _).al _)) hA cW hs
 go_enter Tryz.func87,Tryz.ntmps87
 go_wp2_with fail
 refine hCo.mono ?_
 rintro e w1 ⟨v1,rfl,jF,a_⟩
 obtain ⟨eJ,fc,rfl,hac2,hst2,hao2⟩:=rQ jF
 have lh:Below w.heap.size w w1:=((Below.refl _ _).al _).tr a_
 have mP:w1.heap[w.heap.size]? = some (.cells #[.int .i64 0,.int .i64 0,.slice none 0 0,.slice none 0 0] 159 (0,0)):=a_.aE (aB _ _ _ rfl)
 have hlt1:aj<w1.heap.size:=Nat.lt_of_lt_of_le cz lh.size
 have hbN:Below w.heap.size w (w1.alloc (.cells #[.int .i64 1,.int .i64 time,.slice eJ A.length fc,.slice none 0 0] 159)):=lh.al _
 have y3:(w1.alloc (.cells #[.int .i64 1,.int .i64 time,.slice eJ A.length fc,.slice none 0 0] 159)).cell? ⟨aj,3,none⟩=some (.slice ea C.length az):=(hbN.cell (p:=⟨aj,3,none⟩) cz).trans r_
 have ia:∀ b,(Value.slice ea C.length az).ownBlock=some b->b<w.heap.size:=fun b hb=>(hE.lt b hb).2
 have oG:∀ b cs t m,w.heap[b]? = some (.cells cs t m)->t≠153->t≠159->¬ (b=aj\/(Value.slice ea C.length az).ownBlock=some b):=fun b cs t m hb h1 h2 hp=>by
  rcases hp with rfl | hp
  ·rw [hw] at hb;injection hb with hb;injection hb with _ hb _;exact h1 hb.symm
  ·obtain ⟨cur,hc⟩:=dG hE hp
   rw [hc] at hb;injection hb with hb;injection hb with _ hb _;exact h2 hb.symm
 have hrowN:∀ a,eJ=some a->w.heap.size+1<=a.block/\∃ cs,w1.heap[a.block]? = some (.cells cs 9 (0,0)):=fun a ha=>by have:=hao2 a ha;simpa using this
 have fin:∀ (num:Int),num=eQ C->∀ (nT:Value) (W':World),W'.heap[aj]? = some (.cells #[.int .i64 ai,rm,.slice no K.length aI,nT,pv] 153 (0,0))->bY W' nT (C++[(⟨num,time,eJ,A.length,fc,none,0,0⟩:bx)])->aY (fun b=>b=aj\/(Value.slice ea C.length az).ownBlock=some b) (w1.alloc (.cells #[.int .i64 num,.int .i64 time,.slice eJ A.length fc,.slice none 0 0] 159)) W'->(∀ b,nT.ownBlock=some b->(Value.slice ea C.length az).ownBlock=some b\/(w1.alloc (.cells #[.int .i64 num,.int .i64 time,.slice eJ A.length fc,.slice none 0 0] 159)).heap.size<=b)->
   ∃ g iw,nT=.slice (some ⟨g,0,none⟩) (C.length+1) iw/\(∀ (i:Nat) c e,C[i]? = some c->E[i]? = some e->cZ W' c e)/\(∀ c∈C,EvT W' c)/\qh W' (⟨num,time,eJ,A.length,fc,none,0,0⟩:bx) (⟨eQ C,time,A,[]⟩:Pe)/\(∀ a,eJ=some a->∃ cs m,W'.heap[a.block]? = some (.cells cs 9 m))/\eB W' no K/\(∀ a,no=some a->∃ cs m,W'.heap[a.block]? = some (.cells cs 226 m))/\W'.heap[w.heap.size]? = some (.cells #[.int .i64 0,.int .i64 0,.slice none 0 0,.slice none 0 0] 159 (0,0))/\w.heap.size≠g/\
   ∀ (sb sc:Nat) (cur:Array Value) (W'':World),W'.heap.size<=sb->W''.heap[sb]? = some (.cells cur 4 (0,0))->aY (fun b=>b=g\/b=w.heap.size) W' W''->bY W'' (.slice (some ⟨g,0,none⟩) (C.length+1) iw) (C++[(⟨num,time,eJ,A.length,fc,none,0,0⟩:bx).cC sb (K.length+1) sc])->cZ W'' ((⟨num,time,eJ,A.length,fc,none,0,0⟩:bx).cC sb (K.length+1) sc) (b9 E.reverse K (⟨eQ C,time,A,[]⟩:Pe).bare)->
    TakePost aj ai rm no aI K ea az pv C E time A w (.returned (gv ((⟨num,time,eJ,A.length,fc,none,0,0⟩:bx).cC sb (K.length+1) sc))) W'':=by
  intro num hnumE nT W' f1 f2 f3 f4
  have hbW:Below w.heap.size w (w1.alloc (.cells #[.int .i64 num,.int .i64 time,.slice eJ A.length fc,.slice none 0 0] 159)):=lh.al _
  have hWs:(w1.alloc (.cells #[.int .i64 num,.int .i64 time,.slice eJ A.length fc,.slice none 0 0] 159)).heap.size=w1.heap.size+1:=by simp
  have o_:∀ b o,w1.heap[b]? = some o->(w1.alloc (.cells #[.int .i64 num,.int .i64 time,.slice eJ A.length fc,.slice none 0 0] 159)).heap[b]? = some o:=fun b o hb=>(Below.heap_alloc _ _ _ (aw hb)).trans hb
  generalize (w1.alloc (.cells #[.int .i64 num,.int .i64 time,.slice eJ A.length fc,.slice none 0 0] 159))=W at *
  have hws:=lh.size
  have hrl:=aw mP
  have sp:aY (fun b=>b=aj\/(Value.slice ea C.length az).ownBlock=some b) w W':=(aY.aL hbW).trans f3
  have el:(C++[(⟨num,time,eJ,A.length,fc,none,0,0⟩:bx)]).length=C.length+1:=by simp
  obtain ⟨g,iw,rfl⟩:∃ g iw,nT=.slice (some ⟨g,0,none⟩) (C.length+1) iw:=by
   rcases f2.cases with ⟨_,h2⟩ | ⟨g,cp,js,_⟩
   ·simp at h2
   ·rw [el] at js;exact ⟨g,cp,js⟩
  have hgt:∃ cg,W'.heap[g]? = some (.cells cg 159 (0,0)):=dG f2 rfl
  obtain ⟨cg,hgt⟩:=hgt
  have hgf:=f4 g rfl
  have hao3:∀ a,eJ=some a->∃ cs m,W'.heap[a.block]? = some (.cells cs 9 m):=fun a ha=>by
   obtain ⟨h1,cs,h2⟩:=hrowN a ha
   refine ⟨cs,(0,0),(f3.block _ (aw (o_ _ _ h2)) (fun hp=>?_)).trans (o_ _ _ h2)⟩
   rcases hp with e | e
   ·omega
   ·have:=ia _ e;omega
  refine ⟨g,iw,rfl,fun i c e h1 h2=>?_,fun c hc=>?_,⟨hnumE,rfl,⟨by show -1000000000000<=time;omega,ht.2⟩,rfl,by show A.length<=_;omega,fun hne=>?_⟩,hao3,hN.spare sp (fun a ha=>?_),fun a ha=>?_,?_,?_,?_⟩
  ·have ht:=hT c (List.mem_of_getElem? h1)
   exact (hIn i c e h1 h2).spare sp (fun a ha=>by obtain ⟨cs,m,k⟩:=ht.so a ha;exact oG _ _ _ _ k (by decide) (by decide)) (fun a ha=>by obtain ⟨cs,m,k⟩:=ht.ao a ha;exact oG _ _ _ _ k (by decide) (by decide))
  ·have ht:=hT c hc
   exact ht.spare sp (fun a ha=>by obtain ⟨cs,m,k⟩:=ht.so a ha;exact oG _ _ _ _ k (by decide) (by decide)) (fun a ha=>by obtain ⟨cs,m,k⟩:=ht.ao a ha;exact oG _ _ _ _ k (by decide) (by decide))
  ·obtain ⟨b,off,h1,h2,h3⟩:=hst2 hne
   obtain ⟨k1,cs,k2⟩:=hrowN _ h1
   have hb:W'.heap[b]? = w1.heap[b]?:=((f3.block b (by omega) (fun hp=>by
    rcases hp with e | e
    ·have:w.heap.size+1<=b:=k1;omega
    ·have:=ia _ e;have:w.heap.size+1<=b:=k1;omega)).trans (o_ b _ k2)).trans k2.symm
   exact ⟨b,off,h1,by have:=f3.size;omega,fun j hj=>by rw [World.cell?_of_block hb];exact h3 j hj⟩
  ·obtain ⟨cs,m,k⟩:=hNt a ha;exact oG _ _ _ _ k (by decide) (by decide)
  ·obtain ⟨cs,m,k⟩:=hNt a ha;exact ⟨cs,m,(sp.block _ (aw k) (oG _ _ _ _ k (by decide) (by decide))).trans k⟩
  ·refine (f3.block _ (by omega) (fun hp=>?_)).trans (o_ _ _ mP)
   rcases hp with e | e
   ·omega
   ·have:=ia _ e;omega
  ·rcases hgf with e | e
   ·have:=ia _ e;omega
   ·omega
  ·intro sb sc cur W'' a1 a2 a3 a4 a5
   have hss:=f3.size
   have hgw:g≠aj:=by rintro rfl;rw [f1] at hgt;cases hgt
   refine ⟨_,_,sb,cur,rfl,rfl,by omega,a2,(a3.block aj (aw f1) (fun hp=>hp.elim (fun e=>hgw e.symm) (fun e=>by omega))).trans f1,a4,a5,⟨fun a ha=>?_,fun a ha=>?_⟩,⟨a3.os.trans sp.os,a3.tape.trans sp.tape,a3.output.trans sp.output,Nat.le_trans sp.size a3.size,fun b hb hp=>(a3.block b (Nat.lt_of_lt_of_le hb sp.size) (fun e=>?_)).trans (sp.block b hb hp)⟩,fun b hb=>?_⟩
   ·have:some (⟨sb,0,none⟩:Addr)=some a:=ha
    cases this
    exact ⟨cur,(0,0),a2⟩
   ·obtain ⟨cs,m,k⟩:=hao3 a ha
    obtain ⟨k1,_⟩:=hrowN a ha
    refine ⟨cs,m,(a3.block _ (aw k) (fun hp=>?_)).trans k⟩
    rcases hp with e | e
    ·rw [e,hgt] at k;cases k
    ·omega
   ·rcases e with e | e
    ·rcases hgf with e2 | e2
     ·exact hp (.inr (e▸e2))
     ·omega
    ·omega
   ·exact (f4 b hb).imp id (fun x=>by omega)
 rcases List.eq_nil_or_concat C with rfl | ⟨C0,cl,rfl⟩
 ·go_wp2_with fail
  refine region5_any _ ?hq5a aj w1.heap.size ai rm (.slice no K.length aI) _ _ pv _ _ time eJ A.length fc _ _ _ _ _ _ _ _ _ _ _ _ _ _ _ _ _ _ _ _ _ _ _ _ _ _ _ _ _ _ _ _ _ _ _ _ _ _ _ _ _ _ _ _ _ _ _ _ _ _ _ _ ((lh.al _).aE hw) (hE.below (lh.al _)) hn hecap ht hr hold (aB _ _ _ rfl) (fun e=>by have:=ia _ e;have:=lh.size;omega) ?_
  case hq5a=>exact fun _ _ d _ _ h=>by cases d<;>exact h
  intro nT W' v41 f1 f2 f3 f4
  obtain ⟨g,iw,rfl,k1,k2,k3,k4,k5,k6,k7,k8,k9⟩:=fin 1 rfl _ _ f1 f2 f3 f4
  go_wp2_with fail
  refine rO _ ?hq6a aj w.heap.size g iw (.int .i64 ai) rm no aI K pv _ _ E _ W' _ _ _ _ _ _ _ _ _ _ _ _ _ _ _ _ _ _ _ _ _ _ _ _ _ _ _ _ _ _ _ _ _ _ _ _ _ _ _ _ _ _ _ _ _ _ _ _ _ _ _ _ f1 f2 hn Hlen.out k1 k2 k3 k4 hK hnc k5 k6 aN hAh bT k7 k8 ?_
  case hq6a=>exact fun _ _ d _ _ h=>by cases d<;>exact h
  intro sb sc cur W'' a1 a2 a3 a4 a5 a6
  have q0:=ae (i:=0) a6 rfl
  have q1:=ae (i:=1) a6 rfl
  have q2:=ae (i:=2) a6 rfl
  have q3:=ae (i:=3) a6 rfl
  have K9:=k9 sb sc cur W'' a1 a2 a3 a4 a5
  clear k1 k2 k3 k4 k5 k6 k7 k9 f1 f2 f3 f4 a1 a2 a3 a4 a5
  go_wp2_with fail
  refine ⟨rfl,_,?_,K9⟩
  simp [results,Tryz.f87,go_sem,loadVar,gv,bx.cC,q0,q1,q2,q3]
 ·rw [List.concat_eq_append] at *
  have om:(C0++[cl])[C0.length]? = some cl:=by simp
  have hlen1:(C0++[cl]).length=C0.length+1:=by simp
  rcases hE.cases with ⟨_,h2⟩ | ⟨g0,cp,js,_,_,hgl⟩
  ·simp at h2
  cases js
  have hq:=hE.cell (k:=0) om rfl
  have y0:(w1.alloc (.cells #[.int .i64 1,.int .i64 time,.slice eJ A.length fc,.slice none 0 0] 159)).cell? ⟨g0,C0.length*4,none⟩=some (.int .i64 cl.number):=(hbN.cell (p:=⟨g0,C0.length*4,none⟩) hgl).trans hq
  have hnb:=lq cl (by simp)
  have hnn:cl.number+1=eQ (C0++[cl]):=by simp [eQ]
  rw [hlen1] at y3
  go_wp2_with fail
  refine region5_any _ ?hq5b aj w1.heap.size ai rm (.slice no K.length aI) _ _ pv _ _ time eJ A.length fc _ _ _ _ _ _ _ _ _ _ _ _ _ _ _ _ _ _ _ _ _ _ _ _ _ _ _ _ _ _ _ _ _ _ _ _ _ _ _ _ _ _ _ _ _ _ _ _ _ _ _ _ ((lh.al _).aE hw) (hE.below (lh.al _)) hn hecap ht hr hold (aB _ _ _ rfl) (fun e=>by have:=ia _ e;have:=lh.size;omega) ?_
  case hq5b=>exact fun _ _ d _ _ h=>by cases d<;>exact h
  intro nT W' v41 f1 f2 f3 f4
  obtain ⟨g,iw,rfl,k1,k2,k3,k4,k5,k6,k7,k8,k9⟩:=fin (eQ (C0++[cl])) rfl _ _ f1 f2 f3 f4
  go_wp2_with fail
  refine rO _ ?hq6b aj w.heap.size g iw (.int .i64 ai) rm no aI K pv _ _ E _ W' _ _ _ _ _ _ _ _ _ _ _ _ _ _ _ _ _ _ _ _ _ _ _ _ _ _ _ _ _ _ _ _ _ _ _ _ _ _ _ _ _ _ _ _ _ _ _ _ _ _ _ _ f1 f2 hn Hlen.out k1 k2 k3 k4 hK hnc k5 k6 aN hAh bT k7 k8 ?_
  case hq6b=>exact fun _ _ d _ _ h=>by cases d<;>exact h
  intro sb sc cur W'' a1 a2 a3 a4 a5 a6
  have q0:=ae (i:=0) a6 rfl
  have q1:=ae (i:=1) a6 rfl
  have q2:=ae (i:=2) a6 rfl
  have q3:=ae (i:=3) a6 rfl
  have K9:=k9 sb sc cur W'' a1 a2 a3 a4 a5
  clear k1 k2 k3 k4 k5 k6 k7 k9 f1 f2 f3 f4 a1 a2 a3 a4 a5
  go_wp2_with fail
  refine ⟨rfl,_,?_,K9⟩
  simp [results,Tryz.f87,go_sem,loadVar,gv,bx.cC,q0,q1,q2,q3]
end Go.Proofs.YtpbbmagjhkakgaaGreatDoor.Ev
