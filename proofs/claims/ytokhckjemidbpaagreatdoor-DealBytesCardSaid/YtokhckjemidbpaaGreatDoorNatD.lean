/- Which of two numbers is greater: the call. -/
import Derived.Test.YtokhckjemidbpaaGreatDoorNatB
import Derived.Test.YtokhckjemidbpaaGreatDoorFlow
import Derived.RangeFuncNested
import Derived.RangeFuncBound
import Derived.RangeFuncCalls
import Derived.RangeFuncLeaves
import Derived.Shelf.Abstract
import Derived.Shelf.RegionOpen
import Derived.OwnWalkIn
import Derived.TacticsInMore
import Derived.LoopNIn
import Derived.LoopIn
set_option maxRecDepth 1000000
set_option maxHeartbeats 16000000
set_option linter.all false
namespace Go.Proofs.YtokhckjemidbpaaGreatDoor
def wordsOf (V n:Nat):List Nat:=(List.range n).map fun j=>V/Al j%4294967296
theorem An (V n:Nat):(wordsOf V n).length=n:=by simp[wordsOf]
theorem Cx {V n j:Nat}(h:j<n):(wordsOf V n)[j]? = some (V/Al j%4294967296):=by simp[wordsOf,h]
theorem Ck (V n:Nat):Words (wordsOf V n):=by
 intro x hx;simp only[wordsOf,List.mem_map]at hx;obtain⟨j,_,rfl⟩:=hx;exact Nat.mod_lt _ (by omega)
theorem Lf (V n:Nat):wordsOf V (n+1)=wordsOf V n++[V/Al n%4294967296]:=by
 simp[wordsOf,List.range_succ]
theorem Na (V:Nat):∀n,val (wordsOf V n)=V%Al n
 | 0=>by simp[wordsOf,val,Fh,Nat.mod_one]
 | n+1=>by
  rw[Lf,Da,An,Na V n,Bk,Nat.mul_comm 4294967296,Nat.mod_mul]
theorem Cb {V n:Nat}(h:V<Al n):val (wordsOf V n)=V:=by rw[Na,Nat.mod_eq_of_lt h]
theorem Fn (n:Nat):wordsOf 0 n=List.replicate n 0:=by
 apply List.ext_getElem (by simp[wordsOf]);intro i h1 h2;simp[wordsOf]
theorem Th (a b:Nat):Al (a+b)=Al a*Al b:=by unfold Al;rw[Nat.pow_add]
theorem digit (ws:List Nat)(h:Words ws):∀j,val ws/Al j%4294967296=ws.getD j 0:=by
 induction ws with
 | nil=>intro j;simp[val]
 | cons x xs ih=>
  have hx:=h x (by simp);have hxs:Words xs:=fun y hy=>h y (by simp[hy])
  intro j
  cases j with
  | zero=>simp only[val,Fh,Nat.div_one,List.getD_cons_zero];omega
  | succ j=>
   rw[Bk,<-Nat.div_div_eq_div_mul,List.getD_cons_succ,<-ih hxs j]
   congr 2
   simp only[val];omega
def B8 (k:Nat):Nat:=256^k
theorem Gs:B8 0=1:=rfl
theorem Fa (k:Nat):B8 (k+1)=256*B8 k:=by unfold B8;rw[Nat.pow_succ,Nat.mul_comm]
theorem Ya (k:Nat):0<B8 k:=Nat.pow_pos (by omega)
theorem Yb (a b:Nat):B8 (a+b)=B8 a*B8 b:=by unfold B8;rw[Nat.pow_add]
theorem Kf (k:Nat):B8 (4*k)=Al k:=by
 unfold B8 Al;rw[Nat.pow_mul]
theorem Fr {a b:Nat}(h:a<=b):B8 a<=B8 b:=Nat.pow_le_pow_right (by omega) h
theorem Ha (k:Nat):B8 k=2^(8*k):=by unfold B8;rw[show (256:Nat)=2^8 from rfl,<-Nat.pow_mul]
def le:List Nat->Nat
 | []=>0
 | x::xs=>x+256*le xs
theorem Rd (xs ys:List Nat):le (xs++ys)=le xs+B8 xs.length*le ys:=by
 induction xs with
 | nil=>simp[le,Gs]
 | cons x xs ih=>
  simp only[List.cons_append,le,ih,List.length_cons,Fa,Nat.mul_add,Nat.mul_assoc];omega
theorem Yj (xs:List Nat)(x:Nat):le (xs++[x])=le xs+B8 xs.length*x:=by
 rw[Rd];simp[le]
theorem Au.lt {xs:List Nat}(h:Au xs):le xs<B8 xs.length:=by
 induction xs with
 | nil=>simp[le,Gs]
 | cons x xs ih=>
  have h1:=ih fun y hy=>h y (by simp[hy])
  have h2:=h x (by simp);simp only[le,List.length_cons,Fa];omega
theorem Si (xs:List Nat)(k:Nat)(h:k<xs.length):le (xs.take (k+1))=le (xs.take k)+B8 k*xs.getD k 0:=by
 rw[Fw xs k h,Yj];simp[Nat.min_eq_left (Nat.le_of_lt h)]
theorem Vw {V n k x:Nat}(hV:V<B8 k)(hx:x<256) :
  (wordsOf V n).set (k/4) (V/Al (k/4)%4294967296+x*B8 (k%4))=wordsOf (V+B8 k*x) n/\V/Al (k/4)%4294967296<B8 (k%4)/\V/Al (k/4)%4294967296+x*B8 (k%4)<4294967296:=by
 obtain⟨q,r,hkq,hr,hq,hr'⟩:∃q r,k=4*q+r/\r<4/\k/4=q/\k%4=r:=⟨k/4,k%4,by omega,by omega,rfl,rfl⟩
 rw[hq,hr'];have hbk:B8 k=Al q*B8 r:=by rw[hkq,Yb,Kf]
 have hd:V/Al q<B8 r:=by
  rw[Nat.div_lt_iff_lt_mul (Fs q),Nat.mul_comm,<-hbk];exact hV
 have hb4:256*B8 r<=4294967296:=by
  have:B8 (r+1)<=B8 4:=Fr (by omega);rw[Fa]at this
  exact this
 have hb5:B8 r<=4294967296:=by have:=Ya r;omega
 have hdm:V/Al q%4294967296=V/Al q:=Nat.mod_eq_of_lt (by omega);have hxb:x*B8 r+B8 r<=256*B8 r:=by
  have:=Nat.mul_le_mul_right (B8 r) (show x+1<=256 by omega);rw[Nat.add_mul,Nat.one_mul]at this
  exact this
 rw[hdm];have e1:V+B8 k*x=V+Al q*(B8 r*x):=by rw[hbk,Nat.mul_assoc]
 have hcm:B8 r*x=x*B8 r:=Nat.mul_comm _ _;refine⟨?_,hd,by omega⟩;apply List.ext_getElem (by simp[wordsOf]);intro j h1 h2;simp only[List.length_set,An]at h1;rw[List.getElem_set];simp only[wordsOf,List.getElem_map,List.getElem_range];rw[e1]
 by_cases hqj:q=j
 .subst hqj;rw[if_pos rfl,Nat.add_mul_div_left _ _ (Fs q),Nat.mod_eq_of_lt (by omega)];omega
 .rw[if_neg hqj];rcases Nat.lt_or_gt_of_ne hqj with hlt|hgt
  ·-- above: both are nought
   have hb:Al (q+1)<=Al j:=B32_le (by omega);rw[Bk]at hb
   have h3:V<Al j:=by
    have:Al q*B8 r<=Al q*4294967296:=Nat.mul_le_mul_left _ hb5;rw[Nat.mul_comm _ 4294967296]at this
    omega
   have h4:V+Al q*(B8 r*x)<Al j:=by
    have h5:V<Al q*B8 r:=by rw[<-hbk];exact hV
    have h6:Al q*(B8 r*x)+Al q*B8 r<=Al q*4294967296:=by
     rw[<-Nat.mul_add];exact Nat.mul_le_mul_left _ (by omega)
    rw[Nat.mul_comm _ 4294967296]at h6
    omega
   rw[Nat.div_eq_of_lt h3,Nat.div_eq_of_lt h4]
  .have hb:Al q=Al j*(4294967296*Al (q-j-1)):=by
    rw[<-Bk,<-Th];congr 1;omega
   rw[hb,Nat.mul_assoc,Nat.add_mul_div_left _ _ (Fs j),Nat.mul_assoc 4294967296,Nat.add_mul_mod_self_left]
where
 B32_le {a b:Nat} (h:a<=b):Al a<=Al b:=Nat.pow_le_pow_right (by omega) h
open Go Go.RowKit Go.Proofs.YtokhckjemidbpaaGreatDoor.Flow
theorem aI (w:World){a b:Int}{x y:Nat}(ha:a=(x:Nat))(hb:b=(y:Nat))(t:TypeId){g:Nat}(hg:g=w.heap.size):Row (w.alloc (.cells #[.int .u32 a,.int .u32 b] t)) .u32 (some ⟨g,0,none⟩) 2 2 [x,y]:=by
 subst ha;subst hb;subst hg;refine⟨rfl,Av _,by omega,.inr ⟨_,_,rfl,by simp,fun i z hx=>?_⟩⟩;rw[World.cell?_alloc_at (hn:=rfl)]
 match i,hx with
 | 0,hx=>simp at hx;subst hx;simp
 | 1,hx=>simp at hx;subst hx;simp
theorem Cp (n:Nat)(w:World)(hn:n<18446744073709551616) :
  Calls Tryz.prog 17 #[.int .u64 n] w (Fg n w):=by
 go_enter Tryz.func17,Tryz.ntmps17
 go_wp2_with fail
 have hrow:=aI (w.alloc (.cells #[.slice none 0 0] 37)) (a:=(n:Int)%4294967296) (b:=(n:Int)/4294967296) (x:=n%4294967296) (y:=n/4294967296) (by omega) (by omega) 129 (g:=w.heap.size+1) (by simp);have hw:Words [n%4294967296,n/4294967296]:=by intro x hx;simp at hx;omega
 refine(Ca _ _ _ _ _ hrow hw).mono ?_;rintro e w2 ⟨p,m,c,rfl,hn2,hb2,hp⟩;have hbx:=((Cw.mk1 w (.slice none 0 0) 37).alloc _).later hb2;have c0:=hbx.c0;have f0:=hbx.f0;have hn':El (w.heap.size+1) p:=by
  intro q hq;rcases hp with rfl|rfl
  .cases hq
  .cases hq;simp
 have hv:val [n%4294967296,n/4294967296]=n:=by simp only[val];omega
 have HV:=Af hv;clear hv;go_wp2;refine bodyPost_ret (v:=.agg #[.slice p m c]) (by simp[results,Tryz.results17,go_sem,c0]) rfl ⟨p,m,c,rfl,?_,?_,hn'.mono (by omega)⟩
 .have:=hn2.setCell (a:=⟨w.heap.size,0,none⟩) (hn'.ne (show w.heap.size<w.heap.size+1 by omega)) (.slice p m c);rw[HV.out]at this
  exact this
 .exact hbx.bel.setCell (Av _) _
theorem Dh (w:World)(p:Option Addr)(n c:Nat) :
  Calls Tryz.prog 21 #[.agg #[.slice p n c]] w fun e w'=>e=.returned (.bool (decide (n=0)))/\Below w.heap.size w w':=by
 go_enter Tryz.func21,Tryz.ntmps21;go_wp2;go_ret;refine⟨?_,(Bd _ _).alloc (Av _) _⟩
 by_cases h:n=0
 .subst h;rfl
 .have:((n:Int)==0)=false:=by rw[beq_eq_false_iff_ne];omega
  simp[h,this]
theorem Rw (w:World)(p:Option Addr)(n c:Nat)(ws:List Nat)(h:Row w .u32 p n c ws)(hn:n<1000000) :
  Calls Tryz.prog 199 #[.slice p n c] w fun e w'=>∃q d,e=.returned (.slice q n d)/\Row w' .u32 q n d ws/\Below w.heap.size w w'/\El w.heap.size q:=by
 have hne:=fun w=>Lib.run_eql_slice_nil (P:=Tryz.prog) w 35 129 p n c 0 0 Tryz.underlying35
 by_cases hp:p=none
 .subst hp;rcases h.at_ with ⟨_,rfl,rfl⟩|⟨b,off,h1,_⟩
  .go_enter Tryz.func199,Tryz.ntmps199;go_wp2;go_ret;exact⟨none,0,rfl,h,Bd _ _,El.none _⟩
  .cases h1
 .rcases h.at_ with ⟨h1,_⟩|⟨b,off,rfl,hb,hc⟩
  .exact absurd h1 hp
  .obtain⟨i0,hi,hz0,hz1,hz2⟩:=info_parts Tryz.info_u32;have hl:=h.len;have HL:=Af hl;have HC:=Af hc;clear hl hc;have hown:=World.ownsRow_made w (base:=w.heap.size) (e := 129) (size:=1) #[] 0 (Av _) (by simp[maxLen]) (by simp);go_enter Tryz.func199,Tryz.ntmps199
   go_wp2_with (at_builtin;refine wpList_append_own _ rfl _ _ 35 rfl w.heap.size 129 i0 (.int .u32 0) 1 4 Tryz.underlying35 hi hz0 hz1 hz2 rfl (by decide) _ _ _ rfl hown ⟨b,off,none⟩ n c (ws.map fun(x:Nat)=>Value.int .u32 x) rfl ?c1 ?c2 ?c3 ?c4 ?c5 ?c6 ?_)
   case c1=>simp;exact HL.out.symm
   case c2=>
    intro j u hu;have hadd:(⟨b,off,none⟩:Addr).add j=⟨b,off+j,none⟩:=by unfold Addr.add;split<;>simp_all
    rw[hadd,World.cell?_alloc_past (hn:=hb)];rw[List.getElem?_map]at hu
    cases hx:ws[j]? with
    | none=>rw[hx]at hu;cases hu
    | some x=>rw[hx]at hu;cases hu;exact HC.out j x hx
   case c3=>intro u hu;simp only[List.mem_map]at hu;obtain⟨x,_,rfl⟩:=hu;rfl
   case c4=>unfold maxLen;omega
   case c5=>omega
   case c6=>simp
   intro v1 w1 ho1 hg1 _;obtain⟨q,d,rfl,hrow,hnew⟩:=Row.of_owns ho1;have hb1:Below w.heap.size w w1:=((Bd _ w).alloc (Av _) _).grown hg1 (by simp) (fun k e=>by simp[Value.ownBlock]at e;omega);go_wp2;go_ret;exact⟨q,d,rfl,hrow,hb1,hnew⟩
theorem Np (w:World)(p:Option Addr)(n c N:Nat)(h:Ah w p n c N)(hn:n<1000000) :
  Calls Tryz.prog 153 #[.agg #[.slice p n c]] w (Fg N w):=by
 obtain⟨ws,h1,h2,h3,h4⟩:=h.ex;have H4:=Af h4;clear h4;have hbx:=Fk.mk2 w (.slice p n c) (.slice none 0 0) 37 37;go_enter Tryz.func153,Tryz.ntmps153
 go_wp2_with fail
 refine(Rw _ p n c ws (h1.below hbx.bel) hn).mono ?_;rintro e w1 ⟨q,d,rfl,hrow,hb1,hnew⟩;have hbx1:=hbx.later hb1;have c1:=hbx1.c1;have f1:=hbx1.f1;have hnew':El (w.heap.size+2) q:=hnew.mono (by simp);go_wp2;refine bodyPost_ret (v:=.agg #[.slice q n d]) (by simp[results,Tryz.results153,go_sem,c1]) rfl ⟨q,n,d,rfl,?_,?_,hnew'.mono (by omega)⟩
 .exact⟨ws,hrow.setCell (hnew'.ne (show w.heap.size+1<w.heap.size+2 by omega)) _,h2,h3,H4.out⟩
 .exact hbx1.bel.setCell (by simp) _
open Go Go.RowKit
def Ay (n:Nat):Nat:=if n=0 then 0 else n.log2+1
theorem Cj (n k:Nat):Ay n<=k ↔ n<2^k:=by
 unfold Ay
 by_cases h:n=0
 .subst h;simp[Nat.pow_pos]
 .rw[if_neg h,<-Nat.log2_lt h];omega
theorem Og (n:Nat):n<2^Ay n:=(Cj n _).1 (Av _)
theorem Ly {n:Nat}(h:0<n):0<Ay n:=by unfold Ay;rw[if_neg (by omega)];omega
theorem Hz (n k:Nat)(h:0<n/2^k):Ay n=k+Ay (n/2^k):=by
 have hp:0<2^k:=Nat.pow_pos (by omega);have h1:=Og (n/2^k);have h2:=Og n;apply Nat.le_antisymm
 .rw[Cj,Nat.pow_add,Nat.mul_comm]
  rwa [Nat.div_lt_iff_lt_mul hp]at h1
 .have hk:k<=Ay n:=by
   rcases Nat.lt_or_ge (Ay n) k with h3|h3
   .have:2^Ay n<=2^k:=Nat.pow_le_pow_right (by omega) (Nat.le_of_lt h3);have:n/2^k=0:=Nat.div_eq_of_lt (by omega);omega
   .exact h3
  have:Ay (n/2^k)<=Ay n-k:=by
   rw[Cj,Nat.div_lt_iff_lt_mul hp,<-Nat.pow_add,Nat.sub_add_cancel hk];exact h2
  omega
theorem Kc {y:Nat}(h:y<=255):Ay y<=64:=by rw[Cj];exact Nat.lt_of_le_of_lt h (by decide)
def Bp (a b:Nat):Int:=if a<b then -1 else if a=b then 0 else 1
theorem Dp {a b:Nat}(h:a<b):Bp a b = -1:=by simp[Bp,h]
theorem Sy (a:Nat):Bp a a=0:=by simp[Bp]
theorem Hx {a b:Nat}(h:b<a):Bp a b=1:=by rw[Bp,if_neg (by omega),if_neg (by omega)]
def bit (N i:Nat):Bool:=decide (N/2^i%2=1)
def bitsOf (N:Nat):List Bool:=(List.range (Ay N)).map (bit N)
def Dz (N k:Nat):List Bool:=(List.range k).map (bit N)
theorem Vr (N k:Nat):Dz N (k+1)=Dz N k++[bit N k]:=by simp[Dz,List.range_succ]
theorem Ql (N k:Nat):(Dz N k).length=k:=by simp[Dz]
theorem Km (N:Nat):(bitsOf N).length=Ay N:=by simp[bitsOf]
theorem Xs {N i:Nat}(h:i<Ay N):(bitsOf N)[i]? = some (bit N i):=by simp[bitsOf,h]
theorem fJ {N k:Nat}(h:0<N/2^k):k<Ay N:=by
 rcases Nat.lt_or_ge k (Ay N) with h1|h1
 .exact h1
 .rw[Nat.div_eq_of_lt ((Cj N k).1 h1)]at h;omega
theorem Oc (N k:Nat):N%2^(k+1)=N%2^k+(if bit N k then 2^k else 0):=by
 rw[Nat.pow_succ,Nat.mod_mul];unfold bit;have:N/2^k%2<2:=Nat.mod_lt _ (by omega)
 by_cases h:N/2^k%2=1
 .simp[h]
 .have:N/2^k%2=0:=by omega
  simp[this]
structure Ir (w:World) (p:Option Addr) (n c:Nat) (xs:List Bool):Prop where
 len:n=xs.length
 cap:n<=c
 max:c<=9223372036854775807
 at_:(p=none/\n=0/\c=0) ∨ ∃b off,p=some ⟨b,off,none⟩/\b<w.heap.size/\∀(i:Nat) (x:Bool),xs[i]? = some x->w.cell? ⟨b,off+i,none⟩=some (.bool x)
theorem Ir.below {w w':World}{p:Option Addr}{n c:Nat}{xs:List Bool}(h:Ir w p n c xs)(hb:Below w.heap.size w w'):Ir w' p n c xs:=by
 refine⟨h.len,h.cap,h.max,?_⟩;rcases h.at_ with h1|⟨b,off,h1,h2,h3⟩
 .exact .inl h1
 .refine .inr ⟨b,off,h1,Dk h2 hb.size,fun i x hx=>?_⟩;rw[hb.cell (p:=⟨b,off+i,none⟩) h2];exact h3 i x hx
theorem Ir.nil (w:World):Ir w none 0 0 []:=⟨rfl,Av _,by omega,.inl ⟨rfl,rfl,rfl⟩⟩
theorem Ir.pos {w:World}{p:Option Addr}{n c:Nat}{xs:List Bool}(h:Ir w p n c xs)(hn:0<n) :
  ∃b off,p=some ⟨b,off,none⟩/\b<w.heap.size/\∀(i:Nat) (x:Bool),xs[i]? = some x->w.cell? ⟨b,off+i,none⟩=some (.bool x):=by
 rcases h.at_ with h1|h1
 .omega
 .exact h1
theorem Ir.of_owns {w:World}{base:Nat}{e:TypeId}{v:Value}{n:Nat}{ws:List Bool}(h:w.ownsRow base e 1 v n (ws.map Value.bool)) :
  ∃q d,v=.slice q n d/\Ir w q n d ws/\El base q:=by
 have hl:ws.length=n:=by have:=h.1;simpa using this
 rcases h.2 with ⟨rfl,rfl⟩|⟨g,cap,cur,rfl,hb,hg,hnc,hcm,hcs,htake⟩
 .have:ws=[]:=List.eq_nil_of_length_eq_zero hl;subst this;exact⟨none,0,rfl,Ir.nil _,El.none _⟩
 .refine⟨_,cap,rfl,⟨hl.symm,hnc,by simpa [maxLen]using hcm,.inr ⟨g,0,rfl,(Ik hg).1,fun i x hx=>?_⟩⟩,fun q hq=>by cases hq;exact hb⟩;rw[Nat.zero_add,cell_of_row w g i cur e (0,0) hg];have hi:i<n:=by rw[<-hl];exact(List.getElem?_eq_some_iff.1 hx).1
  have:(cur.toList.take (n*1))[i]? = some (.bool x):=by rw[htake];simp[hx]
  rw[List.getElem?_take,if_pos (by omega)]at this
  simpa using this
theorem Tryz.info_bool:(Tryz.prog.info? 4).map (fun i=>(i.zero,i.size,i.bytes))=some (some (.bool false),1,1):=by kernel_rfl
def Bj (w:World)(p:Option Addr)(n c N:Nat):Prop:=Ir w p n c (bitsOf N)
theorem Bj.below {w w':World}{p:Option Addr}{n c N:Nat}(h:Bj w p n c N)(hb:Below w.heap.size w w'):Bj w' p n c N:=Ir.below h hb
theorem dI {w:World}{q:Option Addr}{m d N:Nat}(k:Bj w q m d N):m=Ay N:=by have:=k.len;rwa [Km]at this
def aZ (N:Nat)(w:World)(e:Ending)(w':World):Prop:=∃p n c,e=.returned (.slice p n c)/\Bj w' p n c N/\Below w.heap.size w w'/\El w.heap.size p
open Go Go.RowKit Go.Shelf
attribute [local go_sem] Oper.semAt_some
theorem Sx (a b:Nat)(w:World) :
  Calls Tryz.prog 78 #[.int .i64 a,.int .i64 b] w fun e w'=>e=.returned (.int .i64 (Bp a b))/\w=w':=by
 rcases Nat.lt_trichotomy a b with h|rfl|h
 .rw[Dp h];have h1:(a:Int)<b:=by omega
  go_enter Tryz.func78,Tryz.ntmps78;go_wp2;go_ret;exact⟨rfl,rfl⟩
 .rw[Sy];go_enter Tryz.func78,Tryz.ntmps78;go_wp2;go_ret;exact⟨rfl,rfl⟩
 .rw[Hx h];have h1:(b:Int)<a:=by omega
  have h2:¬(a:Int)<b:=by omega
  go_enter Tryz.func78,Tryz.ntmps78;go_wp2;go_ret;exact⟨rfl,rfl⟩
theorem Sw (a b:Nat)(w:World) :
  Calls Tryz.prog 80 #[.int .u32 a,.int .u32 b] w fun e w'=>e=.returned (.int .i64 (Bp a b))/\w=w':=by
 rcases Nat.lt_trichotomy a b with h|rfl|h
 .rw[Dp h];have h1:(a:Int)<b:=by omega
  go_enter Tryz.func80,Tryz.ntmps80;go_wp2;go_ret;exact⟨rfl,rfl⟩
 .rw[Sy];go_enter Tryz.func80,Tryz.ntmps80;go_wp2;go_ret;exact⟨rfl,rfl⟩
 .rw[Hx h];have h1:(b:Int)<a:=by omega
  have h2:¬(a:Int)<b:=by omega
  go_enter Tryz.func80,Tryz.ntmps80;go_wp2;go_ret;exact⟨rfl,rfl⟩
def Fc (n k:Nat)(h:k<=n):List (Fin n):=(List.finRange k).map fun j=>⟨n-1-j.1,by have:=j.2;omega⟩
theorem Sq (n k:Nat)(h:k<=n):(Fc n k h).length=k:=by simp[Fc]
theorem Xk (n k:Nat)(h:k+1<=n):Fc n (k+1) h=Fc n k (by omega)++[⟨n-1-k,by omega⟩]:=by
 unfold Fc;rw[List.finRange_succ_last];simp[Function.comp_def]
def fF (ws:List Nat){n:Nat}(x:Fin n):Array Value:=#[.int .i64 (x.1:Nat),.int .u32 (ws.getD x.1 0:Nat)]
theorem gN (F:Fence)(n:Nat)(h7:F.fn 142)(hro:F.round=none)(hn:1<=n)(l Bs n₀:Nat)(p:Option Addr)(len cap:Nat)(ws:List Nat)(w0:World)(hrow:Row w0 .u32 p len cap ws)(hlen:len<1000000)(hB:w0.heap.size<=n₀)(J Jx:List (Fin len)->World->Prop)(hY:∀pre x W,J pre W->pre.length<len->YieldAt F (n-1) Tryz.prog l (fF ws x) W fun e W'=>
   (e=.returned (.bool true)/\J (pre++[x]) W'/\Below n₀ W W') ∨ (e=.returned (.bool false)/\Jx (pre++[x]) W'))(W:World)(hW:Below w0.heap.size w0 W)(hBn:Bs<n₀)(hBs:W.cell? ⟨Bs,0,none⟩=some (.slice p len cap))(h0:J [] W) :
  CallsIn F n Tryz.prog 142 #[.func (.yield l) #[] #[],.pointer (some ⟨Bs,0,none⟩)] W fun e W'=>(∃v,e=.returned v) /\
   ((∃ys,(∃h,ys=Fc len len h)/\J ys W') ∨ (∃pre,(∃k h,pre=Fc len k h)/\Jx pre W')):=by
 refine callsIn_of_wp Tryz.func142 rfl h7 ?_ hro;simp only[Tryz.ntmps142,List.size_toArray,List.length_cons,List.length_nil,Nat.reduceAdd,Nat.reduceSub,Array.replicate_succ,Array.replicate_zero,List.push_toArray,List.append_toArray,List.nil_append,List.cons_append]
 gi_wp2
 gi_loopw [3] (fun i wr=>∃k m:Nat,∃hk:k+m<=len,len<=k+m/\i=.int .i64 ((m:Int)-1)/\J (Fc len k (by omega)) wr/\Below n₀ W wr)
  (fun i _=>(intOf i+1).toNat)
 case atStart=>exact⟨0,len,by omega,by omega,rfl,h0,Bd _ _⟩
 case round=>
  obtain⟨k,m,hk,hk2,rfl,hJs,hnx⟩:=hrel;have hbx:=(hnx.cell (p:=⟨Bs,0,none⟩) hBn).trans hBs
  cases m with
  | succ j=>
   have hrow':=hrow.below (hW.trans (hnx.mono hB));obtain⟨b,off,rfl,hb,hc⟩:=hrow'.pos (by omega);have hjl:j<len:=by omega
   obtain⟨fn,tmps,assign,body,hy,hR⟩:=hY _ ⟨j,hjl⟩ wr hJs (by rw[Sq];omega);obtain⟨x,hx⟩:∃x,ws.getD j 0=x:=⟨_,rfl⟩
   have hcx:wr.cell? ⟨b,off+j,none⟩=some (.int .u32 (x:Nat)):=hc _ _ (by
    have:=hrow.len;rw[<-hx,Dv];simp[show j<ws.length by omega])
   unfold fF at hy
   dsimp only at hy
   rw[hx]at hy
   have HD:Hid (Fc len (k+1) (by omega)=Fc len k (by omega)++[⟨j,hjl⟩]):=by
    have:=Xk len k (by omega);have e:len-1-k=j:=by omega
    simp only[e]at this;exact this
   clear hc hx;have e1:(((j+1:Nat):Int)-1)=(j:Int):=by omega
   simp only[e1];clear e1
   gi_wp2
   refine hR.mono ?_;rintro e W3 (⟨rfl,hJ3,hk3⟩|⟨rfl,hJx3⟩)
   .gi_wp2
    go_roundw
    case rel=>exact⟨k+1,j,by omega,by omega,rfl,by rw[HD.out];exact hJ3,hnx.trans hk3⟩
    case measure=>simp[intOf]
   .gi_wp2
    refine bodyPost_ret (results_none rfl _ _ _) rfl ?_;exact⟨⟨_,rfl⟩,.inr ⟨_,⟨k+1,by omega,HD.out.symm⟩,hJx3⟩⟩
  | zero=>
   obtain rfl:k=len:=by omega
   gi_wp2
   go_end0
   exact⟨⟨_,rfl⟩,.inl ⟨_,⟨by omega,rfl⟩,hJs⟩⟩
attribute [local go_sem] Oper.semAt_some
theorem cW (F:Fence)(n:Nat)(h7:F.fn 142)(hro:F.round=none)(hn:1<=n)(Bs n₀:Nat)(p:Option Addr)(len cap:Nat)(ws:List Nat)(w0 w:World)(hrow:Row w0 .u32 p len cap ws)(hlen:len<1000000)(hB:w0.heap.size<=n₀)(hw:Below w0.heap.size w0 w)(hBn:Bs<n₀)(hBs:Bs<w.heap.size)(hc:w.cell? ⟨Bs,0,none⟩=some (.slice p len cap)) :
  SeqStopsK F n Tryz.prog 142 #[.pointer (some ⟨Bs,0,none⟩)] (fF ws) (Below n₀) (fun ys=>∃h,ys=Fc len len h) (fun pre=>∃k h,pre=Fc len k h) len w:=fun l J Jx W hW _ _ hY h0=>by
 have hc':=(hW.cell (p:=⟨Bs,0,none⟩) hBs).trans hc;exact gN F n h7 hro hn l Bs n₀ p len cap ws w0 hrow hlen hB J Jx hY W (hw.trans (hW.mono hw.size)) hBn hc' h0
theorem iH (F:Fence)(n:Nat)(h5:F.fn 79)(hro:F.round=none)(a:Option Addr)(len cap:Nat)(w:World) :
  CallsIn F n Tryz.prog 79 #[.agg #[.slice a len cap]] w fun e w'=>e=.returned (.func (.func 142) #[] #[.pointer (some ⟨w.heap.size,0,none⟩)])/\w'=w.alloc (.cells #[.slice a len cap] 37):=by
 refine callsIn_of_wp Tryz.func79 rfl h5 ?_ hro;simp only[Tryz.ntmps79,List.size_toArray,List.length_cons,List.length_nil,Nat.reduceAdd,Nat.reduceSub,Array.replicate_succ,Array.replicate_zero,List.push_toArray,List.append_toArray,List.nil_append,List.cons_append]
 gi_wp2
 go_ret;exact⟨rfl,rfl⟩
theorem Qt (A B:List Nat)(hl:A.length=B.length)(wA:Words A)(i:Nat)(hi:i<A.length)(h:∀j,i<j->A.getD j 0=B.getD j 0)(hlt:A.getD i 0<B.getD i 0):val A<val B:=by
 have hA:A=A.take i++(A.getD i 0::A.drop (i+1)):=by
  rw[Dv];simp[hi]
 have hB:B=B.take i++(B.getD i 0::B.drop (i+1)):=by
  rw[Dv];simp[show i<B.length by omega]
 have hd:A.drop (i+1)=B.drop (i+1):=by
  apply List.ext_getElem (by simp[hl]);intro j h1 h2;have:=h (i+1+j) (by omega);simp only[Dv]at this;simp only[List.length_drop]at h1 h2;simp only[List.getElem_drop];simpa [show i+1+j<A.length by omega,show i+1+j<B.length by omega]using this
 have e1:val A=val (A.take i)+Al i*(A.getD i 0+4294967296*val (A.drop (i+1))):=by
  conv=>lhs;rw[hA]
  rw[val_append];simp[val,Nat.min_eq_left (Nat.le_of_lt hi)]
 have e2:val B=val (B.take i)+Al i*(B.getD i 0+4294967296*val (A.drop (i+1))):=by
  conv=>lhs;rw[hB]
  rw[val_append,hd];simp[val,Nat.min_eq_left (show i<=B.length by omega)]
 have h1:=(wA.take i).lt;have h3:(A.take i).length=i:=by simp;omega
 rw[h3]at h1
 rw[e1,e2];generalize A.getD i 0=x at *;generalize B.getD i 0=y at *;obtain⟨d,rfl⟩:∃d,y=x+1+d:=⟨y-(x+1),by omega⟩
 generalize 4294967296*val (A.drop (i+1))=z;have:Al i*(x+1+d+z)=Al i*(x+z)+Al i+Al i*d:=by
  rw[show x+1+d+z=(x+z)+1+d from by omega,Nat.mul_add,Nat.mul_add,Nat.mul_one]
 omega
theorem gO (A B:List Nat)(hl:A.length=B.length)(wA:Words A)(wB:Words B)(i:Nat)(hi:i<A.length)(h:∀j,i<j->A.getD j 0=B.getD j 0)(hne:A.getD i 0≠B.getD i 0):Bp (A.getD i 0) (B.getD i 0)=Bp (val A) (val B):=by
 rcases Nat.lt_or_gt_of_ne hne with h1|h1
 .rw[Dp h1,Dp (Qt A B hl wA i hi h h1)]
 .rw[Hx h1,Hx (Qt B A hl.symm wB i (by omega) (fun j hj=>(h j hj).symm) h1)]
theorem Rc {n k:Nat}{h:k<=n}{x:Fin n}:x∈Fc n k h ↔ n<=x.1+k:=by
 unfold Fc;simp only[List.mem_map,List.mem_finRange,true_and];constructor
 .rintro⟨j,rfl⟩;have:=j.2;simp only;omega
 .intro hx;have:=x.2;exact⟨⟨n-1-x.1,by omega⟩,by ext;simp only;omega⟩
theorem eQ {A B:List Nat}{n:Nat}(hA:n=A.length)(hB:n=B.length)(h:∀x∈Fc n n (Av n),A.getD x.1 0=B.getD x.1 0):A=B:=by
 apply List.ext_getElem (by omega);intro j h1 h2;have:=h ⟨j,by omega⟩ (Rc.2 (by simp only;omega));simp only[Dv]at this;simpa [h1,h2]using this
theorem aG (n:Nat)(hn:10<=n)(w:World)(p q:Option Addr)(len c d:Nat)(A B:List Nat)(hA:Row w .u32 p len c A)(hB:Row w .u32 q len d B)(wA:Words A)(wB:Words B)(hlen:len<1000000) :
  CallsIn Fence.wide n Tryz.prog 24 #[.agg #[.slice p len c],.agg #[.slice q len d]] w fun e W'=>e=.returned (.int .i64 (Bp (val A) (val B)))/\Below w.heap.size w W':=by
 have h1:1<=n:=by omega
 have HA:=Af hA.len;have HB:=Af hB.len;refine callsIn_of_wp_marks Tryz.func24 rfl trivial ?_ rfl;simp only[Tryz.ntmps24,List.size_toArray,List.length_cons,List.length_nil,Nat.reduceAdd,Nat.reduceSub,Array.replicate_succ,Array.replicate_zero,List.push_toArray,List.append_toArray,List.nil_append,List.cons_append]
 gi_wp2_with fail
 refine⟨trivial,(iH Fence.wide (n-1) trivial rfl _ _ _ _).mono ?_⟩;rintro e w' ⟨rfl,rfl⟩
 gi_wp2_with fail
 have hB0:Below w.heap.size w ((((w.alloc (.cells #[.slice p len c] 37)).alloc (.cells #[.slice q len d] 37)).alloc (.cells #[.int .i64 0] 3)).alloc (.cells #[.slice p len c] 37)) :=
  ((((Bd _ w).alloc (Av _) _).alloc (by simp) _).alloc (by simp;omega) _).alloc (by simp;omega) _
 refine wpIn_rangeFunc_ownF rfl h1 (gf := 142) (lb:=#[.pointer (some ⟨w.heap.size+1+1+1,0,none⟩)]) rfl trivial (enters_of Tryz.func142 (by kernel_rfl) rfl)
  (cW Fence.wide (n-1) trivial rfl (by omega) (w.heap.size+1+1+1) (w.heap.size+4) p len c A w _ hA hlen (by omega) hB0 (by omega) (by simp) (by simp[go_sem])) belowK_t (belowK_b (by simp)) (Bd _ _) (fun _=>rfl)
  (fun pre W=>((∀x∈pre,A.getD x.1 0=B.getD x.1 0)/\W.cell? ⟨w.heap.size+1,0,none⟩=some (.slice q len d)/\W.cell? ⟨w.heap.size+1+1,0,none⟩=some (.int .i64 0)/\W.frozen? ⟨w.heap.size+1+1,0,none⟩=false)/\Below w.heap.size w W)
  (fun cd pre W=>(cd=.ret/\∃ini last,pre=ini++[last]/\(∀x∈ini,A.getD x.1 0=B.getD x.1 0)/\A.getD last.1 0≠B.getD last.1 0/\W.cell? ⟨w.heap.size+1+1,0,none⟩=some (.int .i64 (Bp (A.getD last.1 0) (B.getD last.1 0))))/\Below w.heap.size w W)
  (OwnFrom.and (Own.from (fun s A B row hs hg hr=>⟨hs.1,cell_kept hs.2.1 hg hr,cell_kept hs.2.2.1 hg hr,(frozen_kept hs.2.2.1 hg hr).trans hs.2.2.2⟩) _) (ownFrom_below (Av _) (by simp;omega)))
  (fun c=>OwnFrom.and (Own.from (fun s A B row hs hg hr=>by obtain⟨hc,ini,last,e1,e2,e3,e4⟩:=hs;exact⟨hc,ini,last,e1,e2,e3,cell_kept e4 hg hr⟩) _) (ownFrom_below (Av _) (by simp;omega)))
  ⟨⟨by simp,by simp[go_sem],by simp[go_sem],by simp[go_sem]⟩,hB0⟩
  (fun x=>{ tmps:=#[.agg #[.slice p len c],.agg #[.slice q len d],.pointer (some ⟨w.heap.size,0,none⟩),.pointer (some ⟨w.heap.size+1,0,none⟩),.pointer (some ⟨w.heap.size+1+1,0,none⟩),.int .i64 (x.1:Nat),.int .u32 (A.getD x.1 0:Nat),
   .pointer (some ⟨w.heap.size,0,none⟩),.slice p len c,.int .i64 len,.pointer (some ⟨w.heap.size+1,0,none⟩),.slice q len d,.int .i64 len,.bool false,undef,undef,undef,undef,undef,undef,undef,.agg #[.slice p len c],
   .func (.func 142) #[] #[.pointer (some ⟨w.heap.size+1+1+1,0,none⟩)],.int .i64 (x.1:Nat),.int .u32 (A.getD x.1 0:Nat),undef,undef,undef,undef,undef,undef,undef,undef,undef,undef,undef,undef,undef,undef],defers:=[] }) ?assign ?body ?done ?stop
 case assign=>
  intro l x W K hK;simp only[fF]
  gi_wp2
  exact hK
 case body=>
  rintro l pre x W ⟨⟨hp,hc1,hc2,hf2⟩,hB1⟩ _;have hrow:=hB.below hB1;have hx2:=x.2;obtain⟨b,off,rfl,hb,hcell⟩:=hrow.pos (by omega);obtain⟨u,hu⟩:∃u,A.getD x.1 0=u:=⟨_,rfl⟩
  obtain⟨v,hv⟩:∃v,B.getD x.1 0=v:=⟨_,rfl⟩
  have hci:W.cell? ⟨b,off+x.1,none⟩=some (.int .u32 (v:Nat)):=hcell _ _ (by rw[<-hv,Dv];simp[show x.1<B.length by have:=HB.out;omega]);have HU:=Af hu;have HV:=Af hv;have HP:=Af hp;rw[hu];clear hcell hu hv hp
  by_cases huv:u=v
  .subst huv
   gi_wp2
   refine⟨KeepsOthers.refl _,Bd _ _,⟨fun y hy=>?_,hc1,hc2,hf2⟩,hB1⟩;rcases List.mem_append.1 hy with h|h
   .exact HP.out y h
   .simp at h;subst h;rw[HU.out,HV.out]
  .have hne:((u:Int)==v)=false:=by rw[beq_eq_false_iff_ne];omega
   have hne':((u:Int)!=v)=true:=by rw[bne_iff_ne];omega
   gi_wp2_with fail
   refine⟨trivial,fun h=>by simp[Fence.wide]at h,CallsIn.inRound l ((callsIn_wide.2 (Sw u v W)).mono ?_)⟩;rintro e W3 ⟨rfl,rfl⟩
   gi_wp2
   refine⟨KeepsOthers.setCell _ _ _,⟨rfl,pre,x,rfl,HP.out,by rw[HU.out,HV.out];exact huv,?_⟩,hB1.setCell (by simp;omega) _⟩;rw[HU.out,HV.out];exact World.cell?_setCell_same _ _ _ hc2
 case done=>
  rintro D ys W hD ⟨_,rfl⟩ ⟨⟨hp,hc1,hc2,hf2⟩,hB1⟩ hK;have HE:Hid (A=B):=eQ HA.out HB.out hp;clear hp
  gi_wp2
  have hK':=(KeepsOthers.setCell W ⟨w.heap.size+1+1,0,none⟩ (.int .i64 0)).same D _ hK rfl;refine⟨by simp,.inl ⟨_,_,rfl,run_takeDeferred hK',?_⟩⟩;have hc5:=cell_kept (World.cell?_setCell_same W ⟨w.heap.size+1+1,0,none⟩ (.int .i64 0) hc2) (grownBy_putObj' _ D (.deferred none)) (fun r e=>by cases e;exact⟨_,hK',rfl⟩);refine⟨.int .i64 0,?_,by rw[HE.out,Sy],(hB1.setCell (p:=⟨w.heap.size+1+1,0,none⟩) (by simp;omega) _).trans (belowK_b (w:=w) (Av _) _ D _ _ (by simp at hD;omega) hK' rfl rfl)⟩;simp[results,Tryz.f24,go_sem,hc5]
 case stop=>
  rintro D cd pre W hD ⟨k,hk,rfl⟩ ⟨⟨rfl,ini,last,e1,e2,e3,hcr⟩,hB1⟩ hK
  gi_wp2
  refine⟨by simp,.inl ⟨_,_,rfl,run_takeDeferred hK,?_⟩⟩;have hc5:=cell_kept hcr (grownBy_putObj' _ D (.deferred none)) (fun r e=>by cases e;exact⟨_,hK,rfl⟩);have hlast:Bp (A.getD last.1 0) (B.getD last.1 0)=Bp (val A) (val B):=by
   refine gO A B (by rw[<-HA.out,<-HB.out]) wA wB last.1 (by have:=last.2;have:=HA.out;omega) (fun j hj=>?_) e3
   by_cases hjl:j<len
   .have hlm:last∈Fc len k hk:=by rw[e1];simp
    have hjm:(⟨j,hjl⟩:Fin len)∈Fc len k hk:=by rw[Rc]at hlm ⊢;simp only;omega
    rw[e1]at hjm
    rcases List.mem_append.1 hjm with h|h
    .exact e2 _ h
    .simp at h;rw[<-h]at hj;simp at hj
   .simp only[Dv];rw[List.getElem?_eq_none (by have:=HA.out;omega),List.getElem?_eq_none (by have:=HB.out;omega)]
  rw[hlast]at hc5
  refine⟨_,?_,rfl,hB1.trans (belowK_b (w:=w) (Av _) W D _ _ (by simp at hD;omega) hK rfl rfl)⟩;simp[results,Tryz.f24,go_sem,hc5]
theorem bI {ws:List Nat}(h:ws.getLast? ≠ some 0)(hn:0<ws.length):Al (ws.length-1)<=val ws:=by
 obtain⟨xs,x,rfl⟩:∃xs x,ws=xs++[x]:=by
  rcases List.eq_nil_or_concat ws with rfl|⟨xs,x,h⟩
  .simp at hn
  .exact⟨xs,x,by simpa using h⟩
 have hx:x≠0:=by simpa using h
 rw[Da];have:Al xs.length*1<=Al xs.length*x:=Nat.mul_le_mul_left _ (by omega);simp at this ⊢;omega
theorem Bz {a b:Nat}(h:a<=b):Al a<=Al b:=Nat.pow_le_pow_right (by omega) h
theorem Ah.len_lt {w:World}{p q:Option Addr}{n c N m d M:Nat}(hA:Ah w p n c N)(hB:Ah w q m d M)(h:n<m):N<M:=by
 obtain⟨A,a1,a2,a3,rfl⟩:=hA.ex;obtain⟨B,b1,b2,b3,rfl⟩:=hB.ex;have h1:=a2.lt;have h2:=bI b3 (by have:=b1.len;omega);have h3:Al A.length<=Al (B.length-1):=Bz (by have:=a1.len;have:=b1.len;omega);omega
theorem Ah.len_le {w:World}{p:Option Addr}{n c N:Nat}(hA:Ah w p n c N){k:Nat}(h:N<Al k):n<=k:=by
 obtain⟨A,a1,a2,a3,rfl⟩:=hA.ex;have hl:=a1.len;rcases Nat.lt_or_ge k n with h1|h1
 .have h2:=bI a3 (by omega);have h3:Al k<=Al (A.length-1):=Bz (by omega);omega
 .exact h1
theorem Ah.zero {w:World}{p:Option Addr}{n c N:Nat}(hA:Ah w p n c N):n=0 ↔ N=0:=by
 constructor
 .intro h;obtain⟨A,a1,a2,a3,rfl⟩:=hA.ex;have:A=[]:=List.eq_nil_of_length_eq_zero (by have:=a1.len;omega);rw[this];rfl
 .intro h;have:=hA.len_le (k:=0) (by rw[h];exact Fs 0);omega
theorem Ft (w:World)(p q:Option Addr)(n c N m d M:Nat)(hA:Ah w p n c N)(hB:Ah w q m d M)(hn:n<1000000)(hm:m<1000000) :
  Calls Tryz.prog 24 #[.agg #[.slice p n c],.agg #[.slice q m d]] w fun e w'=>e=.returned (.int .i64 (Bp N M))/\Below w.heap.size w w':=by
 by_cases hnm:n=m
 .subst hnm;obtain⟨A,a1,a2,_,rfl⟩:=hA.ex;obtain⟨B,b1,b2,_,rfl⟩:=hB.ex;exact callsIn_wide.1 (aG 10 (Av _) w p q n c d A B a1 b1 a2 b2 hn)
 .have hc:Bp n m=Bp N M:=by
   rcases Nat.lt_or_gt_of_ne hnm with h|h
   .rw[Dp h,Dp (hA.len_lt hB h)]
   .rw[Hx h,Hx (hB.len_lt hA h)]
  have HC:=Af hc;have hne:((n:Int)==m)=false:=by rw[beq_eq_false_iff_ne];omega
  have hne':((n:Int)!=m)=true:=by rw[bne_iff_ne];omega
  clear hc hA hB;go_enter Tryz.func24,Tryz.ntmps24
  go_wp2_with fail
  refine(Sx n m _).mono ?_;rintro e w1 ⟨rfl,rfl⟩;go_wp2;refine bodyPost_ret (v:=.int .i64 (Bp n m)) (by simp[results,Tryz.results24,go_sem]) rfl ⟨by rw[HC.out],?_⟩;exact((((Bd _ w).alloc (Av _) _).alloc (by simp) _).alloc (by simp;omega) _)
end Go.Proofs.YtokhckjemidbpaaGreatDoor
