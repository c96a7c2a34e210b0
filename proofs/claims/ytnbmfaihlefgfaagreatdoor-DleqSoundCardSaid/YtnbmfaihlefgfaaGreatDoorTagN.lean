/- Bytes appended to a full row; bytes copied into bytes of the call's own; the tag of nothing, the tag with a half of noughts. -/
import Derived.Test.YtnbmfaihlefgfaaGreatDoorPock
import Derived.Laws.OwnMore
import Derived.ArgAppend
import Derived.Laws.CopyOwn
import Derived.Tactics
import Derived.WalkSmall
import Derived.Test.YtnbmfaihlefgfaaGreatDoorFlow
import Derived.Lib.SlBytesConst
set_option maxRecDepth 1000000
set_option maxHeartbeats 16000000
set_option linter.all false
namespace Go.Proofs.YtnbmfaihlefgfaaGreatDoor
open Go Go.RowKit
structure Own (w:World) (B:Nat) (v:Value) (bs:List Nat):Prop where
 owns:w.ownsRow B 5 1 v bs.length (bs.map fun(x:Nat)=>Value.int .u8 (x:Int))
theorem Own.nil (w:World)(B:Nat):Own w B (.slice none 0 0) []:=⟨World.ownsRow_nil w B 5 1⟩
theorem Own.elim {w:World}{B:Nat}{v:Value}{bs:List Nat}(h:Own w B v bs) :
  ∃p c,v=.slice p bs.length c/\Bi w .u8 p bs.length c bs/\Fh B p/\(p=none->c=0)/\(∀q,p=some q->q.block<w.heap.size):=by
 obtain⟨h1,h2⟩:=h.owns;rcases h2 with ⟨rfl,h0⟩|⟨g,cap,cur,rfl,hb,hg,hnc,hcm,hcs,ht⟩
 .refine⟨none,0,by rw[h0],⟨rfl,by omega,by omega,fun h=>absurd h (by omega)⟩,Fh.none _,fun _=>rfl,fun q hq=>(by cases hq)⟩
 .have hlt:g<w.heap.size:=(Gn hg).1;have hcm':cap<=9223372036854775807:=by simpa [maxLen]using hcm
  refine⟨some ⟨g,0,none⟩,cap,rfl,⟨rfl,hnc,hcm',fun _=>⟨rfl,hnc,hcm',.inr ⟨g,0,rfl,hlt,fun i x hx=>?_⟩⟩⟩,fun q hq=>(by cases hq;exact hb),fun h=>(by cases h),fun q hq=>(by cases hq;exact hlt)⟩;have hi:i<bs.length:=(List.getElem?_eq_some_iff.1 hx).1;have hx2:(bs.map fun(x:Nat)=>Value.int .u8 (x:Int))[i]? = some (.int .u8 (x:Int)):=by rw[List.getElem?_map,hx];rfl
  rw[<-ht,List.getElem?_take]at hx2
  split at hx2
  .unfold World.cell?
   dsimp only
   rw[hg];simp only[Nat.zero_add];rw[Array.getElem?_toList]at hx2
   exact hx2
  .cases hx2
theorem Own.below {w w':World}{B C:Nat}{v:Value}{bs:List Nat}(h:Own w B v bs)(hb:Below C w w')(hc:∀g,v.ownBlock=some g->g<C):Own w' B v bs:=by
 refine⟨⟨h.owns.1,?_⟩⟩;rcases h.owns.2 with h2|⟨g,cap,cur,rfl,hbg,hg,h3⟩
 .exact .inl h2
 .refine .inr ⟨g,cap,cur,rfl,hbg,?_,h3⟩;rw[hb.block g (hc g rfl)];exact hg
theorem Own.lt {w:World}{B:Nat}{v:Value}{bs:List Nat}(h:Own w B v bs):∀g,v.ownBlock=some g->g<w.heap.size:=by
 intro g hg;rcases h.owns.2 with ⟨rfl,_⟩|⟨g',cap,cur,rfl,hbg,hg',h3⟩
 .cases hg
 .obtain rfl:g'=g:=by simpa [Value.ownBlock]using hg
  exact(Gn hg').1
theorem Own.ge {w:World}{B:Nat}{v:Value}{bs:List Nat}(h:Own w B v bs):∀g,v.ownBlock=some g->B<=g:=by
 intro g hg;rcases h.owns.2 with ⟨rfl,_⟩|⟨g',cap,cur,rfl,hbg,hg',h3⟩
 .cases hg
 .obtain rfl:g'=g:=by simpa [Value.ownBlock]using hg
  exact hbg
theorem Own.belowS {w w':World}{B:Nat}{v:Value}{bs:List Nat}(h:Own w B v bs)(hb:Below w.heap.size w w'):Own w' B v bs:=h.below hb h.lt
theorem Own.mono {w:World}{B B':Nat}{v:Value}{bs:List Nat}(h:Own w B v bs)(hb:B'<=B):Own w B' v bs:=by
 refine⟨⟨h.owns.1,?_⟩⟩;rcases h.owns.2 with h2|⟨g,cap,cur,h1,hbg,h3⟩
 .exact .inl h2
 .exact .inr ⟨g,cap,cur,h1,by omega,h3⟩
theorem grown_below {w w':World}{g:Option Nat}(h:w.grownBy w' g){B:Nat}(hB:B<=w.heap.size)(hg:∀b,g=some b->B<=b):Below B w w' :=
 ⟨h.os,h.tape,h.output,h.size,fun k hk=>h.block k (by omega) (fun e=>by have:=hg k e.symm;omega)⟩
theorem Own.lit (w:World)(bs:List Nat)(hm:bs.length<=9223372036854775807):Own (w.alloc (.cells (bs.map fun(x:Nat)=>Value.int .u8 (x:Int)).toArray 5)) w.heap.size (.slice (some ⟨w.heap.size,0,none⟩) bs.length bs.length) bs:=by
 refine⟨⟨by simp,.inr ⟨w.heap.size,bs.length,_,rfl,As _,heap_alloc_new w _,As _,by simpa [maxLen]using hm,by simp,?_⟩⟩⟩;rw[List.take_of_length_le (by simp)]
theorem nO {w:World}{B:Nat}{v:Value}{xs:List Nat}(h:Own w B v xs){p:Option Addr}{m c:Nat}{bs:List Nat}(hr:Bi w .u8 p m c bs)(hn:p=none->c=0)(hmax:xs.length+m<=140737488355328)(hB:B<=w.heap.size)(ty:TypeId) :
  ∃v' w',(Builtin.append_ #[60, 60] ty #[v,.slice p m c]).run Tryz.prog w=.ok v' w'/\Own w' B v' (xs++bs)/\w.grownBy w' v.ownBlock:=by
 obtain⟨i,hi,hz,hs,hb⟩:=info_parts Tryz.info_u8;have hl:=hr.len
 cases p with
 | none=>
  obtain rfl:=hn rfl;have hc:=hr.cap;obtain rfl:m=0:=by omega
  have hbs:bs=[]:=List.eq_nil_of_length_eq_zero hl.symm;refine⟨v,w,run_append_owned_none (P:=Tryz.prog) w B 60 ty 5 i 1 Tryz.underlying60 hi v xs.length _ h.owns,?_,⟨rfl,rfl,rfl,As _,fun _ _ _=>rfl⟩⟩;rw[hbs,List.append_nil];exact h
 | some a=>
  have hmx:xs.length+m<=maxLen:=by simp only[maxLen];omega
  obtain⟨v',w',h1,h2,h3,_⟩:=run_append_own (P:=Tryz.prog) w B 60 ty 5 i (.int .u8 0) 1 1 Tryz.underlying60 hi hz hs hb (by rfl) (by decide) v xs.length _ h.owns a m c (bs.map fun(x:Nat)=>Value.int .u8 (x:Int)) (by simp[hl])
   (fun j u hu=>by
    rw[List.getElem?_map]at hu
    obtain⟨x,hx,rfl⟩:=Option.map_eq_some_iff.1 hu;have h0:0<m:=by have:=(List.getElem?_eq_some_iff.1 hx).1;omega
    obtain⟨b,off,e,h2,h3⟩:=(hr.row h0).pos h0;cases e;rw[add_plain];exact h3 j x hx)
   (fun u hu=>by obtain⟨x,_,rfl⟩:=List.mem_map.1 hu;rfl) hmx (by omega) hB
  refine⟨v',w',h1,⟨?_⟩,h3⟩;rw[<-List.map_append,hl,<-List.length_append]at h2
  exact h2
theorem Dj {w:World}{ops:Array Oper}{rest:List Oper}{o:Oper}{a:Act}{Q:Exit->Act->World->Prop}(hgd:o.guard=none)(s x:Operand)(ho:o.op=.call { callee:=.builtin .append,args:=#[s,x],argTypes:=#[60, 60] }){B:Nat}{v:Value}{xs:List Nat}(hs:a.eval s=v)(h:Own w B v xs){p:Option Addr}{m c:Nat}{bs:List Nat}(hx:a.eval x=.slice p m c)(hr:Bi w .u8 p m c bs)(hn:p=none->c=0)(hmax:xs.length+m<=140737488355328)(hB:B<=w.heap.size)(hk:∀v' w',Own w' B v' (xs++bs)->w.grownBy w' v.ownBlock->wpList Tryz.prog ops Q rest (a.put o.dst v') w'):wpList Tryz.prog ops Q (o::rest) a w:=by
 obtain⟨v',w',h1,h2,h3⟩:=nO h hr hn hmax hB o.type;refine wpList_plain hgd fun K hK=>?_
 unfold Oper.wp;simp[execOp,ho,resolve,invoke,builtin,hs,hx,h1,Result.andThen];exact hK _ _ (hk v' w' h2 h3)
inductive Ci (lo:Nat) (bs:List Nat):Value->World->Prop where
 | of (p:Option Addr) (c:Nat) (w:World) (h:Bi w .u8 p bs.length c bs) (hn:Fh lo p) (hz:p=none->c=0) (hp:∀q,p=some q->q.block<w.heap.size):Ci lo bs (.slice p bs.length c) w
theorem Ci.mk {w:World}{B:Nat}{v:Value}{bs:List Nat}(h:Own w B v bs):Ci B bs v w:=by
 obtain⟨p,c,rfl,h1,h2,h3,h4⟩:=h.elim;exact .of p c w h1 h2 h3 h4
theorem Ci.elim {lo:Nat}{bs:List Nat}{v:Value}{w:World}(h:Ci lo bs v w){C:Prop}(k:∀p c,v=.slice p bs.length c->Bi w .u8 p bs.length c bs->Fh lo p->(p=none->c=0)->C):C:=by
 cases h with
 | of p c _ h hn hz hp=>exact k p c rfl h hn hz
theorem Ci.below {lo:Nat}{bs:List Nat}{v:Value}{w w':World}(h:Ci lo bs v w)(hb:Below w.heap.size w w'):Ci lo bs v w':=by
 cases h with
 | of p c _ h hn hz hp=>exact .of p c w' (h.below hb) hn hz (fun q hq=>De (hp q hq) hb.size)
theorem Ci.zero {lo:Nat}{bs:List Nat}{v:Value}{w:World}(h:Ci lo bs v w):Ci 0 bs v w:=by
 cases h with
 | of p c _ h hn hz hp=>exact .of p c w h (fun _ _=>Nat.zero_le _) hz hp
def Tl (bs:List Nat)(w:World)(e:Ending)(w':World):Prop:=∃v,e=.returned v/\Ci w.heap.size bs v w'/\Below w.heap.size w w'
theorem Jz (w:World)(bs:List Nat)(hm:bs.length<=9223372036854775807):Bi (w.alloc (.cells (bs.map fun(x:Nat)=>Value.int .u8 (x:Int)).toArray 5)) .u8 (some ⟨w.heap.size,0,none⟩) bs.length bs.length bs:=by
 have h:=Bl.row (w:=w.alloc (.cells (bs.map fun(x:Nat)=>Value.int .u8 (x:Int)).toArray 5)) (g:=w.heap.size) (e := 5) (k:=.u8) (xs:=bs) (heap_alloc_new w _) (n:=bs.length) (c:=bs.length) rfl (As _) hm;exact⟨rfl,As _,hm,fun _=>h⟩
def wordsOf (V n:Nat):List Nat:=(List.range n).map fun j=>V/Ap j%4294967296
theorem Av (V n:Nat):(wordsOf V n).length=n:=by simp[wordsOf]
theorem Dt {V n j:Nat}(h:j<n):(wordsOf V n)[j]? = some (V/Ap j%4294967296):=by simp[wordsOf,h]
theorem Cy (V n:Nat):Words (wordsOf V n):=by
 intro x hx;simp only[wordsOf,List.mem_map]at hx;obtain⟨j,_,rfl⟩:=hx;exact Nat.mod_lt _ (by omega)
theorem Nx (V n:Nat):wordsOf V (n+1)=wordsOf V n++[V/Ap n%4294967296]:=by
 simp[wordsOf,List.range_succ]
theorem Qd (V:Nat):∀n,val (wordsOf V n)=V%Ap n
 | 0=>by simp[wordsOf,val,Gx,Nat.mod_one]
 | n+1=>by
  rw[Nx,Ea,Av,Qd V n,Bu,Nat.mul_comm 4294967296,Nat.mod_mul]
theorem Cn {V n:Nat}(h:V<Ap n):val (wordsOf V n)=V:=by rw[Qd,Nat.mod_eq_of_lt h]
theorem Hg (n:Nat):wordsOf 0 n=List.replicate n 0:=by
 apply List.ext_getElem (by simp[wordsOf]);intro i h1 h2;simp[wordsOf]
theorem Rp (a b:Nat):Ap (a+b)=Ap a*Ap b:=by unfold Ap;rw[Nat.pow_add]
theorem digit (ws:List Nat)(h:Words ws):∀j,val ws/Ap j%4294967296=ws.getD j 0:=by
 induction ws with
 | nil=>intro j;simp[val]
 | cons x xs ih=>
  have hx:=h x (by simp);have hxs:Words xs:=fun y hy=>h y (by simp[hy])
  intro j
  cases j with
  | zero=>simp only[val,Gx,Nat.div_one,List.getD_cons_zero];omega
  | succ j=>
   rw[Bu,<-Nat.div_div_eq_div_mul,List.getD_cons_succ,<-ih hxs j]
   congr 2
   simp only[val];omega
def B8 (k:Nat):Nat:=256^k
theorem Io:B8 0=1:=rfl
theorem Gp (k:Nat):B8 (k+1)=256*B8 k:=by unfold B8;rw[Nat.pow_succ,Nat.mul_comm]
theorem dO (k:Nat):0<B8 k:=Nat.pow_pos (by omega)
theorem dP (a b:Nat):B8 (a+b)=B8 a*B8 b:=by unfold B8;rw[Nat.pow_add]
theorem Mq (k:Nat):B8 (4*k)=Ap k:=by
 unfold B8 Ap;rw[Nat.pow_mul]
theorem Gq {a b:Nat}(h:a<=b):B8 a<=B8 b:=Nat.pow_le_pow_right (by omega) h
theorem Hb (k:Nat):B8 k=2^(8*k):=by unfold B8;rw[show (256:Nat)=2^8 from rfl,<-Nat.pow_mul]
def le:List Nat->Nat
 | []=>0
 | x::xs=>x+256*le xs
theorem Va (xs ys:List Nat):le (xs++ys)=le xs+B8 xs.length*le ys:=by
 induction xs with
 | nil=>simp[le,Io]
 | cons x xs ih=>
  simp only[List.cons_append,le,ih,List.length_cons,Gp,Nat.mul_add,Nat.mul_assoc];omega
theorem dV (xs:List Nat)(x:Nat):le (xs++[x])=le xs+B8 xs.length*x:=by
 rw[Va];simp[le]
theorem Ay.lt {xs:List Nat}(h:Ay xs):le xs<B8 xs.length:=by
 induction xs with
 | nil=>simp[le,Io]
 | cons x xs ih=>
  have h1:=ih fun y hy=>h y (by simp[hy])
  have h2:=h x (by simp);simp only[le,List.length_cons,Gp];omega
theorem Wr (xs:List Nat)(k:Nat)(h:k<xs.length):le (xs.take (k+1))=le (xs.take k)+B8 k*xs.getD k 0:=by
 rw[Fv xs k h,dV];simp[Nat.min_eq_left (Nat.le_of_lt h)]
theorem aU {V n k x:Nat}(hV:V<B8 k)(hx:x<256) :
  (wordsOf V n).set (k/4) (V/Ap (k/4)%4294967296+x*B8 (k%4))=wordsOf (V+B8 k*x) n/\V/Ap (k/4)%4294967296<B8 (k%4)/\V/Ap (k/4)%4294967296+x*B8 (k%4)<4294967296:=by
 obtain⟨q,r,hkq,hr,hq,hr'⟩:∃q r,k=4*q+r/\r<4/\k/4=q/\k%4=r:=⟨k/4,k%4,by omega,by omega,rfl,rfl⟩
 rw[hq,hr'];have hbk:B8 k=Ap q*B8 r:=by rw[hkq,dP,Mq]
 have hd:V/Ap q<B8 r:=by
  rw[Nat.div_lt_iff_lt_mul (Gr q),Nat.mul_comm,<-hbk];exact hV
 have hb4:256*B8 r<=4294967296:=by
  have:B8 (r+1)<=B8 4:=Gq (by omega);rw[Gp]at this
  exact this
 have hb5:B8 r<=4294967296:=by have:=dO r;omega
 have hdm:V/Ap q%4294967296=V/Ap q:=Nat.mod_eq_of_lt (by omega);have hxb:x*B8 r+B8 r<=256*B8 r:=by
  have:=Nat.mul_le_mul_right (B8 r) (show x+1<=256 by omega);rw[Nat.add_mul,Nat.one_mul]at this
  exact this
 rw[hdm];have e1:V+B8 k*x=V+Ap q*(B8 r*x):=by rw[hbk,Nat.mul_assoc]
 have hcm:B8 r*x=x*B8 r:=Nat.mul_comm _ _;refine⟨?_,hd,by omega⟩;apply List.ext_getElem (by simp[wordsOf]);intro j h1 h2;simp only[List.length_set,Av]at h1;rw[List.getElem_set];simp only[wordsOf,List.getElem_map,List.getElem_range];rw[e1]
 by_cases hqj:q=j
 .subst hqj;rw[if_pos rfl,Nat.add_mul_div_left _ _ (Gr q),Nat.mod_eq_of_lt (by omega)];omega
 .rw[if_neg hqj];rcases Nat.lt_or_gt_of_ne hqj with hlt|hgt
  ·-- above: both are nought
   have hb:Ap (q+1)<=Ap j:=B32_le (by omega);rw[Bu]at hb
   have h3:V<Ap j:=by
    have:Ap q*B8 r<=Ap q*4294967296:=Nat.mul_le_mul_left _ hb5;rw[Nat.mul_comm _ 4294967296]at this
    omega
   have h4:V+Ap q*(B8 r*x)<Ap j:=by
    have h5:V<Ap q*B8 r:=by rw[<-hbk];exact hV
    have h6:Ap q*(B8 r*x)+Ap q*B8 r<=Ap q*4294967296:=by
     rw[<-Nat.mul_add];exact Nat.mul_le_mul_left _ (by omega)
    rw[Nat.mul_comm _ 4294967296]at h6
    omega
   rw[Nat.div_eq_of_lt h3,Nat.div_eq_of_lt h4]
  .have hb:Ap q=Ap j*(4294967296*Ap (q-j-1)):=by
    rw[<-Bu,<-Rp];congr 1;omega
   rw[hb,Nat.mul_assoc,Nat.add_mul_div_left _ _ (Gr j),Nat.mul_assoc 4294967296,Nat.add_mul_mod_self_left]
where
 B32_le {a b:Nat} (h:a<=b):Ap a<=Ap b:=Nat.pow_le_pow_right (by omega) h
structure Ad (p:Prop):Prop where
 out:p
theorem Aa {p:Prop}(h:p):Ad p:=⟨h⟩
structure Fn (p:Prop):Prop where
 out:p
theorem eJ {P:Program}{ops:Array Oper}{rest:List Oper}{a:Act}{Q:Exit->Act->World->Prop}{w w':World}(h:w=w')(k:wpList P ops Q rest a w'):wpList P ops Q rest a w:=h ▸ k
structure Ct (g:Nat) (w w':World):Prop where
 os:w'.os=w.os
 tape:w'.tape=w.tape
 output:w'.output=w.output
 size:w.heap.size<=w'.heap.size
 block:∀k,k<w.heap.size->k≠g->w'.heap[k]? = w.heap[k]?
theorem Ct.refl (g:Nat)(w:World):Ct g w w:=⟨rfl,rfl,rfl,As _,fun _ _ _=>rfl⟩
theorem Ct.trans {g:Nat}{a b c:World}(h:Ct g a b)(k:Ct g b c):Ct g a c :=
 ⟨k.os.trans h.os,k.tape.trans h.tape,k.output.trans h.output,Ec h.size k.size,fun i hi hn=>(k.block i (De hi h.size) hn).trans (h.block i hi hn)⟩
theorem Ct.of {g:Nat}{w w':World}(h:Below w.heap.size w w'):Ct g w w':=⟨h.os,h.tape,h.output,h.size,fun k hk _=>h.block k hk⟩
theorem Ct.below {g:Nat}{w w':World}(h:Ct g w w'){B:Nat}(hg:B<=g)(hB:B<=w.heap.size):Below B w w' :=
 ⟨h.os,h.tape,h.output,h.size,fun k hk=>h.block k (by omega) (by omega)⟩
theorem Ct.setRow {g:Nat}(w:World)(cs:Array Value):Ct g w (w.setRow g cs):=⟨rfl,rfl,rfl,by simp[World.setRow],fun k _ hn=>setRow_other w g k cs hn⟩
theorem Ct.setCell {g:Nat}(w:World)(o:Nat)(u:Value):Ct g w (w.setCell ⟨g,o,none⟩ u):=⟨rfl,rfl,rfl,by simp[World.setCell],fun k _ hn=>Below.heap_setCell _ _ _ _ hn⟩
theorem Ct.drew {g:Nat}{w w':World}(h:Ct g w w'):Ct g w w'.drew:=⟨h.os,h.tape,h.output,h.size,h.block⟩
theorem Ct.cell {g:Nat}{w w':World}(h:Ct g w w'){p:Addr}(hp:p.block<w.heap.size)(hn:p.block≠g):w'.cell? p=w.cell? p:=World.cell?_of_block (w:=w) (h.block p.block hp hn)
theorem Ou {P:Program}{f:FuncId}{args:Array Value}{w w1:World}{Q:Ending->World->Prop}(h:w=w1)(k:Calls P f args w1 Q):Calls P f args w Q:=h ▸ k
theorem Ds {a b c:World}(h:Below a.heap.size a b)(k:Below b.heap.size b c):Below a.heap.size a c:=h.trans (k.mono h.size)
def four:List Nat:=[3,7,11,15]
def pp:Nat:=2^130-5
open Go Go.RowKit Go.Proofs.YtnbmfaihlefgfaaGreatDoor.Flow
theorem Wc {w:World}{g n:Nat}{xs:List Nat}(hx:Bl w g 5 .u8 xs)(hl:n=xs.length){p:Option Addr}{m c:Nat}{bs:List Nat}(hr:Bi w .u8 p m c bs)(hm:0<m)(hmax:n+m<=140737488355328)(ty:TypeId){C:Prop}(k:∀v' w',(Builtin.append_ #[60, 60] ty #[.slice (some ⟨g,0,none⟩) n n,.slice p m c]).run Tryz.prog w=.ok v' w'->Own w' w.heap.size v' (xs++bs)->Below w.heap.size w w'->C):C:=by
 obtain⟨i,hi,hz,hs,hb⟩:=info_parts Tryz.info_u8;have hbl:=hr.len;obtain⟨b,off,e,h2,h3⟩:=(hr.row hm).pos hm;subst e;obtain⟨v',w',h1,h4,h5⟩:=run_append_arg_grows (P:=Tryz.prog) w 60 ty 5 i (.int .u8 0) 1 1 Tryz.underlying60 hi hz hs hb rfl (by decide) ⟨g,0,none⟩ n n (xs.map fun(x:Nat)=>Value.int .u8 (x:Int)) (by simp[hl])
  (fun j u hu=>by
   rw[List.getElem?_map]at hu
   obtain⟨x,hx',rfl⟩:=Option.map_eq_some_iff.1 hu;rw[add_plain,Nat.zero_add];exact hx.cell hx')
  ⟨b,off,none⟩ m c (bs.map fun(x:Nat)=>Value.int .u8 (x:Int)) (by simp[hbl])
  (fun j u hu=>by
   rw[List.getElem?_map]at hu
   obtain⟨x,hx,rfl⟩:=Option.map_eq_some_iff.1 hu;rw[add_plain];exact h3 j x hx) (by omega) (by simp only[maxLen];omega) (by omega)
 refine k v' w' h1 ⟨?_⟩ ⟨h5.os,h5.tape,h5.output,h5.size,fun k hk=>h5.block k hk (by simp)⟩;rw[List.length_append,List.map_append,<-hl,<-hbl];exact h4
end Go.Proofs.YtnbmfaihlefgfaaGreatDoor
