/- The document's sums and differences. -/
import Derived.Test.YthgoeiegdhphjaaGreatDoorNatD
import Derived.Deep.QuietTactic
import Derived.BigQuiet
import Derived.RangeFuncNested
set_option maxRecDepth 1000000
set_option maxHeartbeats 16000000
set_option linter.unusedSimpArgs false
set_option linter.unusedVariables false
namespace Go.Proofs.YthgoeiegdhphjaaGreatDoor
open Go Go.RowKit Go.Proofs.YthgoeiegdhphjaaGreatDoor.Flow
def bit (N i:Nat):Bool:=decide (N/2^i%2=1)
def bitsOf (N:Nat):List Bool:=(List.range (Al N)).map (bit N)
def Bx (N k:Nat):List Bool:=(List.range k).map (bit N)
theorem Ei (N k:Nat):Bx N (k+1)=Bx N k++[bit N k]:=by simp[Bx,List.range_succ]
theorem Mn (N k:Nat):(Bx N k).length=k:=by simp[Bx]
theorem Bc (N:Nat):(bitsOf N).length=Al N:=by simp[bitsOf]
theorem Cz {N i:Nat}(h:i<Al N):(bitsOf N)[i]? = some (bit N i):=by simp[bitsOf,h]
theorem eM {N k:Nat}(h:0<N/2^k):k<Al N:=by
 rcases Nat.lt_or_ge k (Al N) with h1|h1
 .exact h1
 .rw[Nat.div_eq_of_lt ((Bd N k).1 h1)]at h;omega
theorem pD {N k:Nat}(h:N/2^k=0)(hk:k<=Al N):k=Al N:=by
 refine Nat.le_antisymm hk ((Bd N k).2 ?_);exact(Nat.div_eq_zero_iff.1 h).resolve_left (by have:=Nat.pow_pos (n:=k) (show 0<2 by omega);omega)
theorem Ma (N k:Nat):N%2^(k+1)=N%2^k+(if bit N k then 2^k else 0):=by
 rw[Nat.pow_succ,Nat.mod_mul];unfold bit;have:N/2^k%2<2:=Nat.mod_lt _ (by omega)
 by_cases h:N/2^k%2=1
 .simp[h]
 .have:N/2^k%2=0:=by omega
  simp[this]
structure Eb (w:World) (p:Option Addr) (n c:Nat) (xs:List Bool):Prop where
 len:n=xs.length
 cap:n<=c
 max:c<=9223372036854775807
 at_:(p=none/\n=0/\c=0) ∨ ∃b off,p=some ⟨b,off,none⟩/\b<w.heap.size/\∀(i:Nat) (x:Bool),xs[i]? = some x->w.cell? ⟨b,off+i,none⟩=some (.bool x)
theorem Eb.below {w w':World}{p:Option Addr}{n c:Nat}{xs:List Bool}(h:Eb w p n c xs)(hb:Below w.heap.size w w'):Eb w' p n c xs:=by
 refine⟨h.len,h.cap,h.max,?_⟩;rcases h.at_ with h1|⟨b,off,h1,h2,h3⟩
 .exact .inl h1
 .refine .inr ⟨b,off,h1,Nat.lt_of_lt_of_le h2 hb.size,fun i x hx=>?_⟩;rw[hb.cell (p:=⟨b,off+i,none⟩) h2];exact h3 i x hx
theorem Eb.nil (w:World):Eb w none 0 0 []:=⟨rfl,Nat.le_refl _,by omega,.inl ⟨rfl,rfl,rfl⟩⟩
theorem Eb.pos {w:World}{p:Option Addr}{n c:Nat}{xs:List Bool}(h:Eb w p n c xs)(hn:0<n) :
  ∃b off,p=some ⟨b,off,none⟩/\b<w.heap.size/\∀(i:Nat) (x:Bool),xs[i]? = some x->w.cell? ⟨b,off+i,none⟩=some (.bool x):=by
 rcases h.at_ with h1|h1
 .omega
 .exact h1
theorem Eb.of_owns {w:World}{base:Nat}{e:TypeId}{v:Value}{n:Nat}{ws:List Bool}(h:w.ownsRow base e 1 v n (ws.map Value.bool)) :
  ∃q d,v=.slice q n d/\Eb w q n d ws/\Fg base q:=by
 have hl:ws.length=n:=by have:=h.1;simpa using this
 rcases h.2 with ⟨rfl,rfl⟩|⟨g,cap,cur,rfl,hb,hg,hnc,hcm,hcs,htake⟩
 .have:ws=[]:=List.eq_nil_of_length_eq_zero hl;subst this;exact⟨none,0,rfl,Eb.nil _,Fg.none _⟩
 .refine⟨_,cap,rfl,⟨hl.symm,hnc,by simpa [maxLen]using hcm,.inr ⟨g,0,rfl,(Array.getElem?_eq_some_iff.1 hg).1,fun i x hx=>?_⟩⟩,fun q hq=>by cases hq;exact hb⟩;rw[Nat.zero_add,cell_of_row w g i cur e (0,0) hg];have hi:i<n:=by rw[<- hl];exact(List.getElem?_eq_some_iff.1 hx).1
  have:(cur.toList.take (n*1))[i]? = some (.bool x):=by rw[htake];simp[hx]
  rw[List.getElem?_take,if_pos (by omega)]at this
  simpa using this
theorem Tryz.info_bool:(Tryz.prog.info? 4).map (fun i=>(i.zero,i.size,i.bytes))=some (some (.bool false),1,1):=by kernel_rfl
def Bb (w:World)(p:Option Addr)(n c N:Nat):Prop:=Eb w p n c (bitsOf N)
theorem Bb.below {w w':World}{p:Option Addr}{n c N:Nat}(h:Bb w p n c N)(hb:Below w.heap.size w w'):Bb w' p n c N:=Eb.below h hb
theorem Cb {w:World}{q:Option Addr}{m d N:Nat}(k:Bb w q m d N):m=Al N:=by have:=k.len;rwa [Bc]at this
def Hm (N:Nat)(w:World)(e:Ending)(w':World):Prop:=∃p n c,e=.returned (.slice p n c)/\Bb w' p n c N/\Below w.heap.size w w'/\Fg w.heap.size p
theorem Kp (N:Nat)(w:World)(hN:N<18446744073709551616) :
  Calls Tryz.prog 26 #[.int .u64 N] w (Hm N w):=by
 obtain⟨i0,hi,hz0,hz1,hz2⟩:=info_parts Tryz.info_bool;have h64:Al N<=64:=(Bd N 64).2 hN;have hown:=World.ownsRow_made w (base:=w.heap.size) (e := 4) (size:=1) #[] 0 (Nat.le_refl _) (by simp[maxLen]) (by simp);go_enter Tryz.func26,Tryz.ntmps26;go_wp2
 go_loopw [0,3] (fun u v wr=>∃k x:Nat,k<=Al N/\Hid (N/2^k=x)/\u=.int .u64 x/\x<18446744073709551616/\wr.ownsRow w.heap.size 4 1 v k ((Bx N k).map Value.bool)/\Below w.heap.size w wr) (fun u _ _=>(intOf u).toNat)
 case atStart =>
  refine⟨0,N,Nat.zero_le _,Lib.hid (by simp),rfl,hN,?_,(Below.refl _ _).alloc (Nat.le_refl _) _⟩;simpa [Bx]using hown
 case round =>
  obtain⟨k,x,hk,hx,rfl,hx1,ho,hbw⟩:=hrel;have hh:Hid (N/2^(k+1)=x/2):=Lib.hid (by rw[Nat.pow_succ,<- Nat.div_div_eq_div_mul,hx.out]);have hbt:bit N k=((x:Int)%2==1):=by
   unfold bit;rw[hx.out,Bool.eq_iff_iff];simp;omega
  have HB:=Lib.hid hbt;clear hbt
  go_wp2_with (at_builtin;refine wpList_append_own _ rfl _ _ 28 rfl w.heap.size 4 i0 (.bool false) 1 1 Tryz.underlying28 hi hz0 hz1 hz2 rfl (by decide) _ _ _ rfl (ho.alloc _) ⟨wr.heap.size,0,none⟩ 1 1 [.bool ((x:Int)%2==1)] rfl rfl ?c1 ?c2 ?c3 ?c4 ?c5 ?_)
  case c1 =>
   intro j u hj
   match j,hj with
   | 0,hj=>simp at hj;subst hj;simp[Addr.add]
  case c2=>intro u hu;simp at hu;subst hu;rfl
  case c3=>unfold maxLen;omega
  case c4=>omega
  case c5=>have:=hbw.size;simp;omega
  .intro v' w1 ho' hg _;have hx0:0<x:=by assumption
   have hkl:k<Al N:=eM (by rw[hx.out];exact hx0);have hbw1:Below w.heap.size w w1:=(hbw.alloc hbw.size _).grown hg (by have:=hbw.size;simp;omega) (fun j hj=>(ho.lt j hj).1);have ho1:w1.ownsRow w.heap.size 4 1 v' (k+1) ((Bx N (k+1)).map Value.bool):=by
    rw[Ei,List.map_append,HB.out];exact ho'
   clear ho' hg ho;go_wp2;go_roundw
   case rel=>exact⟨k+1,x/2,by omega,hh,by simp[Int.natCast_ediv],by omega,ho1,hbw1⟩
   case measure=>simp[intOf];omega
  .have hx0:¬0<x:=by assumption
   have hkl:k=Al N:=pD (by rw[hx.out];omega) hk;subst hkl;obtain⟨q,d,rfl,hrow,hq⟩:=Eb.of_owns ho;go_ret;exact⟨q,Al N,d,rfl,hrow,hbw,hq⟩
theorem Hz {N L i:Nat}(h:i<L):(Bx N L)[i]? = some (bit N i):=by simp[Bx,h]
theorem iP (N:Nat):bitsOf N=Bx N (Al N):=rfl
theorem aT {N L k:Nat}(h:k<=L):(Bx N L).take k=Bx N k:=by
 apply List.ext_getElem?;intro i;rw[List.getElem?_take];split
 .rw[Hz (by omega),Hz (by omega)]
 .rw[List.getElem?_eq_none (by rw[Mn];omega)]
theorem gK {N m:Nat}(h:N<2^(m+1))(hb:bit N m=false):N<2^m:=by
 have h1:=Ma N m;rw[Nat.mod_eq_of_lt h,hb]at h1
 simp only[Bool.false_eq_true,if_false,Nat.add_zero]at h1;rw[h1];exact Nat.mod_lt _ (Nat.pow_pos (by omega))
theorem aQ {N m:Nat}(h:N<2^(m+1))(hb:bit N m=true):Al N=m+1:=by
 refine Nat.le_antisymm ((Bd N _).2 h) ?_;refine eM ?_;unfold bit at hb;have h3:N/2^m%2=1:=by simpa using hb
 generalize N/2^m=z at *;omega
theorem Eb.take {w:World}{p:Option Addr}{n c:Nat}{xs:List Bool}(h:Eb w p n c xs)(m:Nat)(hm:m<=n):Eb w p m c (xs.take m):=by
 have hl:=h.len;refine⟨by simp;omega,Nat.le_trans hm h.cap,h.max,?_⟩;rcases h.at_ with ⟨h1,h2,h3⟩|⟨b,off,h1,h2,h3⟩
 .exact .inl ⟨h1,by omega,h3⟩
 .refine .inr ⟨b,off,h1,h2,fun i x hx=>h3 i x ?_⟩;rw[List.getElem?_take]at hx
  split at hx
  .exact hx
  .cases hx
def dV (N:Nat)(p:Option Addr)(c:Nat)(w:World)(e:Ending)(w':World):Prop:=∃m,e=.returned (.slice p m c)/\Bb w p m c N/\w=w'
theorem Fi (w:World)(p:Option Addr)(n c N:Nat)(h:Eb w p n c (Bx N n))(hN:N<2^n) :
  Calls Tryz.prog 149 #[.slice p n c] w (dV N p c w):=by
 have hm:=h.max;have hcp:=h.cap;go_enter Tryz.func149,Tryz.ntmps149;go_wp2
 go_loop [0] (fun s=>∃k:Nat,k<=n/\s=.slice p k c/\Hid (N<2^k)) (fun s=>match s with | .slice _ k _=>k|_=>0)
 case atStart=>exact⟨n,Nat.le_refl _,rfl,Lib.hid hN⟩
 case round =>
  obtain⟨k,hk,rfl,hv⟩:=hrel
  cases k with
  | zero =>
   have hN0:N=0:=by have:=hv.out;simp at this;omega
   have HN:=Lib.hid hN0;clear hN0;go_wp2;go_ret;refine⟨0,rfl,?_,rfl⟩;have:=h.take 0 (by omega);rw[HN.out];exact this
  | succ m =>
   obtain⟨b,off,rfl,hb,hc⟩:=h.pos (by omega);obtain⟨x,hx⟩:∃x,bit N m=x:=⟨_,rfl⟩
   have hci:w.cell? ⟨b,off+m,none⟩=some (.bool x):=hc m x (by rw[Hz (by omega),hx]);have HX:=Lib.hid hx;clear hc hx
   cases x with
   | false =>
    go_wp2;go_round
    case rel=>exact⟨m,by omega,rfl,Lib.hid (gK hv.out HX.out)⟩
    case measure=>simp
   | true =>
    go_wp2;go_ret;have e:=aQ hv.out HX.out;refine⟨m+1,rfl,?_,rfl⟩;have:=h.take (m+1) hk;rw[aT hk,<- e,<- iP]at this
    rw[<- e];exact this
theorem qI (xs:List Nat)(h:Aw xs):∀j,le xs/B8 j%256=xs.getD j 0:=by
 induction xs with
 | nil=>intro j;simp[le]
 | cons x xs ih =>
  have hx:x<256:=h x (by simp);have ih:=ih (fun y hy=>h y (by simp[hy]));intro j
  cases j with
  | zero=>simp only[le,Im,Nat.div_one,List.getD_cons_zero];omega
  | succ j =>
   simp only[le,Gj,List.getD_cons_succ];rw[<- Nat.div_div_eq_div_mul,show (x+256*le xs)/256=le xs by omega];exact ih j
theorem Ej (N i:Nat):bit N i=N.testBit i:=by
 unfold bit;rw[Nat.testBit_eq_decide_div_mod_eq]
theorem mP {N j k x:Nat}(hx:N/B8 j%256=x)(hk:k<8):bit N (8*j+k)=decide (x/2^k%2=1):=by
 show _=bit x k;rw[Ej,Ej,<- hx,Gw,show (256:Nat)=2^8 from rfl,Nat.testBit_mod_two_pow,Nat.testBit_div_two_pow];simp[hk,Nat.add_comm]
theorem qU {N i:Nat}(h:Al N<=i):bit N i=false:=by
 have h1:N<2^i:=(Bd N i).1 h;unfold bit;rw[Nat.div_eq_of_lt h1];rfl
theorem Te {N M:Nat}(h:Al N<Al M):N<M:=by
 rcases Nat.lt_or_ge N M with h1|h1
 .exact h1
 .have:Al M<=Al N:=(Bd M _).2 (Nat.lt_of_le_of_lt h1 (Dl N));omega
theorem Gh (N i:Nat):N/2^i=2*(N/2^(i+1))+(bit N i).toNat:=by
 rw[Nat.pow_succ,<- Nat.div_div_eq_div_mul];unfold bit;generalize N/2^i=z
 by_cases h:z%2=1
 .simp[h];omega
 .simp[h];omega
theorem Sl {N M i:Nat}(h:N/2^(i+1)=M/2^(i+1))(h1:bit N i=false)(h2:bit M i=true):N<M:=by
 have e1:=Gh N i;have e2:=Gh M i;rw[h1]at e1
 rw[h2]at e2
 rcases Nat.lt_or_ge N M with h3|h3
 .exact h3
 .have:=Nat.div_le_div_right (c:=2^i) h3;simp only[Bool.toNat_true,Bool.toNat_false]at e1 e2;omega
theorem Sv {N M i:Nat}(h:N/2^(i+1)=M/2^(i+1))(h1:bit N i=bit M i):N/2^i=M/2^i:=by
 rw[Gh N i,Gh M i,h,h1]
def nF (N M:Nat)(w:World)(e:Ending)(w':World):Prop:=e=.returned (.int .i64 (Bi N M))/\Below w.heap.size w w'
theorem Mq (w:World)(p:Option Addr)(n c N:Nat)(q:Option Addr)(m d M:Nat)(hA:Bb w p n c N)(hB:Bb w q m d M)(hn:n<=1000000000)(hm:m<=1000000000) :
  Calls Tryz.prog 50 #[.slice p n c,.slice q m d] w (nF N M w):=by
 have hl:n=Al N:=by have:=hA.len;rwa [Bc]at this
 have hk:m=Al M:=by have:=hB.len;rwa [Bc]at this
 have HN:=Lib.hid hl;have HM:=Lib.hid hk;clear hl hk
 by_cases h1:n<m
 .have HC:Hid (Bi N M = -1):=Lib.hid (Cu (Te (by rw[<- HN.out,<- HM.out];exact h1)));go_enter Tryz.func50,Tryz.ntmps50;go_wp2;go_ret;exact⟨by rw[HC.out];rfl,Below.refl _ _⟩
 by_cases h2:m<n
 .have HC:Hid (Bi N M=1):=Lib.hid (Hc (Te (by rw[<- HN.out,<- HM.out];exact h2)));go_enter Tryz.func50,Tryz.ntmps50;go_wp2;go_ret;exact⟨by rw[HC.out];rfl,Below.refl _ _⟩
 obtain rfl:n=m:=by omega
 clear h1 h2;have hlt:¬(n:Int)<n:=by omega
 go_enter Tryz.func50,Tryz.ntmps50;go_wp2
 go_loopw [5] (fun i wr=>∃k:Nat,k<=n/\i=.int .i64 ((k:Int)-1)/\Hid (N/2^k=M/2^k)/\Below w.heap.size w wr) (fun i _=>(intOf i+1).toNat)
 case atStart =>
  refine⟨n,Nat.le_refl _,rfl,Lib.hid ?_,Below.refl _ _⟩;rw[Nat.div_eq_of_lt ((Bd N n).1 (by rw[<- HN.out];exact Nat.le_refl _)),Nat.div_eq_of_lt ((Bd M n).1 (by rw[<- HM.out];exact Nat.le_refl _))]
 case round =>
  obtain⟨k,hk,rfl,hq,hbw⟩:=hrel
  cases k with
  | zero =>
   have HC:Hid (Bi N M=0):=Lib.hid (by
    have:=hq.out;rw[Nat.pow_zero,Nat.div_one,Nat.div_one]at this
    rw[this];exact Rj _)
   go_wp2;go_ret;exact⟨by rw[HC.out];rfl,hbw⟩
  | succ k =>
   obtain⟨b,off,rfl,hb,hc⟩:=hA.pos (by omega);obtain⟨b2,off2,rfl,hb2,hc2⟩:=hB.pos (by omega);obtain⟨x,hx⟩:∃x,bit N k=x:=⟨_,rfl⟩
   obtain⟨y,hy⟩:∃y,bit M k=y:=⟨_,rfl⟩
   have hcx:wr.cell? ⟨b,off+k,none⟩=some (.bool x):=by
    rw[(Bu hbw).1 _ _ hb];exact hc k x (by rw[Cz (by rw[<- HN.out];omega),hx])
   have hcy:wr.cell? ⟨b2,off2+k,none⟩=some (.bool y):=by
    rw[(Bu hbw).1 _ _ hb2];exact hc2 k y (by rw[Cz (by rw[<- HM.out];omega),hy])
   have HX:=Lib.hid hx;have HY:=Lib.hid hy;have e1:(((k+1:Nat):Int)-1)=(k:Int):=by omega
   simp only[e1];clear hc hc2 hx hy e1;cases x<;>cases y
   .go_wp2
    go_quiet (fail)
    go_wp2;go_roundw
    case rel=>exact⟨k,by omega,rfl,Lib.hid (Sv hq.out (by rw[HX.out,HY.out])),below_drewN hbw _⟩
    case measure=>simp[intOf]
   .have HC:Hid (Bi N M = -1):=Lib.hid (Cu (Sl hq.out HX.out HY.out));go_wp2
    go_quiet (fail)
    go_wp2;go_ret;exact⟨by rw[HC.out];rfl,below_drewN hbw _⟩
   .have HC:Hid (Bi N M=1):=Lib.hid (Hc (Sl hq.out.symm HY.out HX.out));go_wp2
    go_quiet (fail)
    go_wp2;go_ret;exact⟨by rw[HC.out];rfl,below_drewN hbw _⟩
   .go_wp2
    go_quiet (fail)
    go_wp2;go_roundw
    case rel=>exact⟨k,by omega,rfl,Lib.hid (Sv hq.out (by rw[HX.out,HY.out])),below_drewN hbw _⟩
    case measure=>simp[intOf]
theorem Et (w:World)(p:Option Addr)(n c N i:Nat)(h:Bb w p n c N)(hi:i<=1000000000000) :
  Calls Tryz.prog 178 #[.slice p n c,.int .i64 i] w fun e w'=>e=.returned (.int .i64 ((bit N i).toNat:Nat))/\w=w':=by
 have hl:n=Al N:=by have:=h.len;rwa [Bc]at this
 have HN:=Lib.hid hl;clear hl
 by_cases h1:i<n
 .obtain⟨b,off,rfl,hb,hc⟩:=h.pos (by omega);obtain⟨x,hx⟩:∃x,bit N i=x:=⟨_,rfl⟩
  have hcx:w.cell? ⟨b,off+i,none⟩=some (.bool x):=hc i x (by rw[Cz (by rw[<- HN.out];omega),hx]);rw[hx];clear hc hx;cases x
  .go_enter Tryz.func178,Tryz.ntmps178;go_wp2;go_ret;exact⟨rfl,rfl⟩
  .go_enter Tryz.func178,Tryz.ntmps178;go_wp2;go_ret;exact⟨rfl,rfl⟩
 .rw[qU (by rw[<- HN.out];omega)];go_enter Tryz.func178,Tryz.ntmps178;go_wp2;go_ret;exact⟨rfl,rfl⟩
def carry (N M k:Nat):Nat:=(N%2^k+M%2^k)/2^k
theorem Kv (N k:Nat):N%2^(k+1)=N%2^k+2^k*(bit N k).toNat:=by
 rw[Ma];cases bit N k<;>simp
theorem rO (N M k:Nat):carry N M k<=1:=by
 have hp:0<2^k:=Nat.pow_pos (by omega);have h1:=Nat.mod_lt N hp;have h2:=Nat.mod_lt M hp;unfold carry;have:(N%2^k+M%2^k)/2^k<2:=by rw[Nat.div_lt_iff_lt_mul hp];omega
 omega
theorem dJ (N M:Nat):carry N M 0=0:=by simp[carry,Nat.mod_one]
theorem dK (N M k:Nat):carry N M (k+1)=((bit N k).toNat+(bit M k).toNat+carry N M k)/2:=by
 have hp:0<2^k:=Nat.pow_pos (by omega);unfold carry;rw[Kv,Kv,Nat.pow_succ,<- Nat.div_div_eq_div_mul]
 congr 1
 rw[show N%2^k+2^k*(bit N k).toNat+(M%2^k+2^k*(bit M k).toNat)=2^k*((bit N k).toNat+(bit M k).toNat)+(N%2^k+M%2^k) by rw[Nat.mul_add];omega];rw[Nat.mul_add_div hp]
theorem pI (N M k:Nat):bit (N+M) k=decide (((bit N k).toNat+(bit M k).toNat+carry N M k)%2=1):=by
 have hp:0<2^k:=Nat.pow_pos (by omega);have e:(N+M)/2^k=N/2^k+M/2^k+carry N M k:=by
  unfold carry
  conv=>lhs;rw[<- Nat.div_add_mod N (2^k),<- Nat.div_add_mod M (2^k)]
  rw[show 2^k*(N/2^k)+N%2^k+(2^k*(M/2^k)+M%2^k)=2^k*(N/2^k+M/2^k)+(N%2^k+M%2^k) by rw[Nat.mul_add];omega];rw[Nat.mul_add_div hp]
 have e1:=Gh N k;have e2:=Gh M k;show decide ((N+M)/2^k%2=1)=_;rw[e,decide_eq_decide];omega
theorem iJ {N M k:Nat}(h:0<carry N M k):k<=Al N+Al M:=by
 have hp:0<2^k:=Nat.pow_pos (by omega);unfold carry at h;have h1:=Nat.mod_le N (2^k);have h2:=Nat.mod_le M (2^k);have h3:2^k<=N%2^k+M%2^k:=by
  rcases Nat.lt_or_ge (N%2^k+M%2^k) (2^k) with h4|h4
  .rw[Nat.div_eq_of_lt h4]at h;omega
  .exact h4
 have h4:=Dl N;have h5:=Dl M;have h6:2^Al N<=2^(Al N+Al M):=Nat.pow_le_pow_right (by omega) (by omega);have h7:2^Al M<=2^(Al N+Al M):=Nat.pow_le_pow_right (by omega) (by omega);have h8:2^k<2^(Al N+Al M+1):=by rw[Nat.pow_succ];omega
 have:=(Nat.pow_lt_pow_iff_right (show 1<2 by omega)).1 h8;omega
theorem sum_lt {N M k:Nat}(h1:Al N<=k)(h2:Al M<=k)(h3:carry N M k=0):N+M<2^k:=by
 have hp:0<2^k:=Nat.pow_pos (by omega);have h4:=(Bd N k).1 h1;have h5:=(Bd M k).1 h2;unfold carry at h3;rw[Nat.mod_eq_of_lt h4,Nat.mod_eq_of_lt h5]at h3
 exact(Nat.div_eq_zero_iff.1 h3).resolve_left (by omega)
theorem Sb (w:World)(p:Option Addr)(n c N:Nat)(q:Option Addr)(m d M:Nat)(hA:Bb w p n c N)(hB:Bb w q m d M)(hn:n<=1000000)(hm:m<=1000000) :
  Calls Tryz.prog 132 #[.slice p n c,.slice q m d] w (Hm (N+M) w):=by
 obtain⟨i0,hi,hz0,hz1,hz2⟩:=info_parts Tryz.info_bool;have hl:n=Al N:=by have:=hA.len;rwa [Bc]at this
 have hk:m=Al M:=by have:=hB.len;rwa [Bc]at this
 have HN:=Lib.hid hl;have HM:=Lib.hid hk;clear hl hk;have hown:=World.ownsRow_made w (base:=w.heap.size) (e := 4) (size:=1) #[] 0 (Nat.le_refl _) (by simp[maxLen]) (by simp);go_enter Tryz.func132,Tryz.ntmps132;go_wp2
 go_loopw [5,6,7,8] (fun v cy i _ wr=>∃k x:Nat,k<=n+m+1/\i=.int .i64 k/\cy=.int .i64 x/\x<=1/\Hid (carry N M k=x)/\wr.ownsRow w.heap.size 4 1 v k ((Bx (N+M) k).map Value.bool)/\Below w.heap.size w wr) (fun _ _ i _ _=>n+m+2-(intOf i).toNat)
 case atStart =>
  refine⟨0,0,by omega,rfl,rfl,by omega,Lib.hid (dJ _ _),?_,(Below.refl _ _).alloc (Nat.le_refl _) _⟩;simpa [Bx]using hown
 case round =>
  obtain⟨k,x,hk,rfl,rfl,hx1,hcy,ho,hbw⟩:=hrel;have hgo:(k<n ∨ k<m ∨ 0<x)->k<=n+m:=by
   rintro(h1|h1|h1)
   .omega
   .omega
   .have:=iJ (N:=N) (M:=M) (k:=k) (by rw[hcy.out];exact h1);rw[<- HN.out,<- HM.out]at this;exact this
  have hstep:(k<=n+m)->True:=fun _=>trivial
  obtain⟨a,ha⟩:∃a,(bit N k).toNat=a:=⟨_,rfl⟩
  obtain⟨b,hb⟩:∃b,(bit M k).toNat=b:=⟨_,rfl⟩
  have ha1:a<=1:=by rw[<- ha];exact Bool.toNat_le _
  have hb1:b<=1:=by rw[<- hb];exact Bool.toNat_le _
  have hs:=pI N M k;have hc':=dK N M k;rw[ha,hb,hcy.out]at hs hc'
  have HS:=Lib.hid hs;have HC:=Lib.hid hc';have HA:=Lib.hid ha;have HB:=Lib.hid hb;have HE:Hid (¬(k<n ∨ k<m ∨ 0<x)->N+M<2^k):=Lib.hid (fun h=>sum_lt (by rw[<- HN.out];omega) (by rw[<- HM.out];omega) (by rw[hcy.out];omega));have HG:=Lib.hid hgo;clear hs hc' ha hb hgo hstep;have hin:Bb wr p n c N:=hA.below hbw;have hin2:Bb wr q m d M:=hB.below hbw;have HSI:Hid (bit (N+M) k=(((a:Int)+b+x)%2==1)):=Lib.hid (by
   rw[HS.out,Bool.eq_iff_iff];simp only[decide_eq_true_eq,beq_iff_eq];omega)
  by_cases h1:k<n
  .have hkl:k<=n+m:=HG.out (.inl h1)
   go_wp2_with fail
   refine(Et wr p n c N k hin (by omega)).mono ?_;rintro e w1 ⟨rfl,rfl⟩;rw[HA.out]
   go_wp2_with fail
   refine(Et wr q m d M k hin2 (by omega)).mono ?_;rintro e w1 ⟨rfl,rfl⟩;rw[HB.out]
   go_wp2_with (at_builtin;refine wpList_append_own _ rfl _ _ 28 rfl w.heap.size 4 i0 (.bool false) 1 1 Tryz.underlying28 hi hz0 hz1 hz2 rfl (by decide) _ _ _ rfl (ho.alloc _) ⟨wr.heap.size,0,none⟩ 1 1 [.bool (((a:Int)+b+x)%2==1)] rfl rfl ?c1 ?c2 ?c3 ?c4 ?c5 ?_)
   case c1 =>
    intro jj u hj
    match jj,hj with
    | 0,hj=>simp at hj;subst hj;simp[Addr.add]
   case c2=>intro u hu;simp at hu;subst hu;rfl
   case c3=>unfold maxLen;omega
   case c4=>omega
   case c5=>have:=hbw.size;simp;omega
   intro v' w1 ho' hg _;have hbw1:Below w.heap.size w w1:=(hbw.alloc hbw.size _).grown hg (by have:=hbw.size;simp;omega) (fun j hj=>(ho.lt j hj).1);have ho1:w1.ownsRow w.heap.size 4 1 v' (k+1) ((Bx (N+M) (k+1)).map Value.bool):=by
    rw[Ei,List.map_append,HSI.out];exact ho'
   clear ho' hg ho;go_wp2;go_roundw
   case rel=>exact⟨k+1,(a+b+x)/2,by omega,by go_num,by go_num,by omega,HC,ho1,hbw1⟩
   case measure=>simp[intOf];omega
  by_cases h2:k<m
  .have hkl:k<=n+m:=HG.out (.inr (.inl h2))
   go_wp2_with fail
   refine(Et wr p n c N k hin (by omega)).mono ?_;rintro e w1 ⟨rfl,rfl⟩;rw[HA.out]
   go_wp2_with fail
   refine(Et wr q m d M k hin2 (by omega)).mono ?_;rintro e w1 ⟨rfl,rfl⟩;rw[HB.out]
   go_wp2_with (at_builtin;refine wpList_append_own _ rfl _ _ 28 rfl w.heap.size 4 i0 (.bool false) 1 1 Tryz.underlying28 hi hz0 hz1 hz2 rfl (by decide) _ _ _ rfl (ho.alloc _) ⟨wr.heap.size,0,none⟩ 1 1 [.bool (((a:Int)+b+x)%2==1)] rfl rfl ?c1 ?c2 ?c3 ?c4 ?c5 ?_)
   case c1 =>
    intro jj u hj
    match jj,hj with
    | 0,hj=>simp at hj;subst hj;simp[Addr.add]
   case c2=>intro u hu;simp at hu;subst hu;rfl
   case c3=>unfold maxLen;omega
   case c4=>omega
   case c5=>have:=hbw.size;simp;omega
   intro v' w1 ho' hg _;have hbw1:Below w.heap.size w w1:=(hbw.alloc hbw.size _).grown hg (by have:=hbw.size;simp;omega) (fun j hj=>(ho.lt j hj).1);have ho1:w1.ownsRow w.heap.size 4 1 v' (k+1) ((Bx (N+M) (k+1)).map Value.bool):=by
    rw[Ei,List.map_append,HSI.out];exact ho'
   clear ho' hg ho;go_wp2;go_roundw
   case rel=>exact⟨k+1,(a+b+x)/2,by omega,by go_num,by go_num,by omega,HC,ho1,hbw1⟩
   case measure=>simp[intOf];omega
  by_cases h3:0<x
  .have hkl:k<=n+m:=HG.out (.inr (.inr h3))
   go_wp2_with fail
   refine(Et wr p n c N k hin (by omega)).mono ?_;rintro e w1 ⟨rfl,rfl⟩;rw[HA.out]
   go_wp2_with fail
   refine(Et wr q m d M k hin2 (by omega)).mono ?_;rintro e w1 ⟨rfl,rfl⟩;rw[HB.out]
   go_wp2_with (at_builtin;refine wpList_append_own _ rfl _ _ 28 rfl w.heap.size 4 i0 (.bool false) 1 1 Tryz.underlying28 hi hz0 hz1 hz2 rfl (by decide) _ _ _ rfl (ho.alloc _) ⟨wr.heap.size,0,none⟩ 1 1 [.bool (((a:Int)+b+x)%2==1)] rfl rfl ?c1 ?c2 ?c3 ?c4 ?c5 ?_)
   case c1 =>
    intro jj u hj
    match jj,hj with
    | 0,hj=>simp at hj;subst hj;simp[Addr.add]
   case c2=>intro u hu;simp at hu;subst hu;rfl
   case c3=>unfold maxLen;omega
   case c4=>omega
   case c5=>have:=hbw.size;simp;omega
   intro v' w1 ho' hg _;have hbw1:Below w.heap.size w w1:=(hbw.alloc hbw.size _).grown hg (by have:=hbw.size;simp;omega) (fun j hj=>(ho.lt j hj).1);have ho1:w1.ownsRow w.heap.size 4 1 v' (k+1) ((Bx (N+M) (k+1)).map Value.bool):=by
    rw[Ei,List.map_append,HSI.out];exact ho'
   clear ho' hg ho;go_wp2;go_roundw
   case rel=>exact⟨k+1,(a+b+x)/2,by omega,by go_num,by go_num,by omega,HC,ho1,hbw1⟩
   case measure=>simp[intOf];omega
  have hlt:=Lib.hid (HE.out (by omega));obtain⟨q,d,rfl,hrow,hnew⟩:=Eb.of_owns ho
  go_wp2_with fail
  refine(Fi wr q k d (N+M) hrow hlt.out).mono ?_;rintro e w1 ⟨l,rfl,hm,rfl⟩;go_wp2;go_ret;exact⟨q,l,d,rfl,hm,hbw,hnew⟩
def Hx (N M k:Nat):Nat:=if N%2^k<M%2^k then 1 else 0
theorem aN (N M:Nat):Hx N M 0=0:=by simp[Hx,Nat.mod_one]
theorem aO (N M k:Nat):Hx N M (k+1)=if (bit N k).toNat<(bit M k).toNat+Hx N M k then 1 else 0:=by
 have hp:0<2^k:=Nat.pow_pos (by omega);have h1:=Nat.mod_lt N hp;have h2:=Nat.mod_lt M hp;unfold Hx;rw[Kv,Kv];generalize N%2^k=n at *;generalize M%2^k=m at *;generalize 2^k=P at *
 by_cases hlt:n<m
 .rw[if_pos hlt];cases bit N k<;>cases bit M k<;>simp only[Bool.toNat_true,Bool.toNat_false,Nat.mul_zero,Nat.mul_one]
  .rw[if_pos (by omega),if_pos (by omega)]
  .rw[if_pos (by omega),if_pos (by omega)]
  .rw[if_neg (by omega),if_neg (by omega)]
  .rw[if_pos (by omega),if_pos (by omega)]
 .rw[if_neg hlt];cases bit N k<;>cases bit M k<;>simp only[Bool.toNat_true,Bool.toNat_false,Nat.mul_zero,Nat.mul_one]
  .rw[if_neg (by omega),if_neg (by omega)]
  .rw[if_pos (by omega),if_pos (by omega)]
  .rw[if_neg (by omega),if_neg (by omega)]
  .rw[if_neg (by omega),if_neg (by omega)]
theorem oZ {N M k:Nat}(h:M<=N):(N-M)/2^k+M/2^k+Hx N M k=N/2^k:=by
 have hp:0<2^k:=Nat.pow_pos (by omega);have h1:=Nat.mod_lt N hp;have h2:=Nat.mod_lt M hp;have e1:=Nat.div_add_mod N (2^k);have e2:=Nat.div_add_mod M (2^k);unfold Hx;generalize N/2^k=A at *;generalize M/2^k=B at *;generalize N%2^k=n at *;generalize M%2^k=m at *;generalize 2^k=P at *;split
 .rename_i hlt
  have hAB:B+1<=A:=by
   rcases Nat.lt_or_ge B A with h3|h3
   .exact h3
   .have:=Nat.mul_le_mul_left P h3;omega
  obtain⟨E,rfl⟩:∃E,A=B+1+E:=⟨A-(B+1),by omega⟩
  have e3:N-M=P*E+(n+P-m):=by
   rw[Nat.mul_add,Nat.mul_add,Nat.mul_one]at e1
   omega
  rw[e3,Nat.mul_add_div hp,Nat.div_eq_of_lt (by omega)];omega
 .rename_i hlt
  have hAB:B<=A:=by
   rcases Nat.lt_or_ge A B with h3|h3
   .have:=Nat.mul_le_mul_left P (Nat.succ_le_of_lt h3);rw[Nat.succ_eq_add_one,Nat.mul_add,Nat.mul_one]at this
    omega
   .exact h3
  obtain⟨E,rfl⟩:∃E,A=B+E:=⟨A-B,by omega⟩
  have e3:N-M=P*E+(n-m):=by
   rw[Nat.mul_add]at e1
   omega
  rw[e3,Nat.mul_add_div hp,Nat.div_eq_of_lt (by omega)];omega
theorem pE {N M k:Nat}(h:M<=N):bit (N-M) k=decide (((bit N k).toNat+(bit M k).toNat+Hx N M k)%2=1):=by
 have e:=oZ (k:=k) h;have e1:=Gh N k;have e2:=Gh M k;show decide ((N-M)/2^k%2=1)=_;rw[decide_eq_decide];omega
theorem Mp (w:World)(p:Option Addr)(n c N:Nat)(q:Option Addr)(m d M:Nat)(hA:Bb w p n c N)(hB:Bb w q m d M)(hn:n<=1000000)(hle:M<=N) :
  Calls Tryz.prog 176 #[.slice p n c,.slice q m d] w (Hm (N-M) w):=by
 obtain⟨i0,hi,hz0,hz1,hz2⟩:=info_parts Tryz.info_bool;have hl:n=Al N:=by have:=hA.len;rwa [Bc]at this
 have HN:=Lib.hid hl;clear hl;have hown:=World.ownsRow_made w (base:=w.heap.size) (e := 4) (size:=1) #[] 0 (Nat.le_refl _) (by simp[maxLen]) (by simp);go_enter Tryz.func176,Tryz.ntmps176;go_wp2
 go_loopw [5,6,7,8] (fun v cy i _ wr=>∃k x:Nat,k<=n/\i=.int .i64 k/\cy=.int .i64 x/\x<=1/\Hid (Hx N M k=x)/\wr.ownsRow w.heap.size 4 1 v k ((Bx (N-M) k).map Value.bool)/\Below w.heap.size w wr) (fun _ _ i _ _=>n-(intOf i).toNat)
 case atStart =>
  refine⟨0,0,by omega,rfl,rfl,by omega,Lib.hid (aN _ _),?_,(Below.refl _ _).alloc (Nat.le_refl _) _⟩;simpa [Bx]using hown
 case round =>
  obtain⟨k,x,hk,rfl,rfl,hx1,hcy,ho,hbw⟩:=hrel
  by_cases h1:k<n
  .obtain⟨a,ha⟩:∃a,(bit N k).toNat=a:=⟨_,rfl⟩
   obtain⟨b,hb⟩:∃b,(bit M k).toNat=b:=⟨_,rfl⟩
   have ha1:a<=1:=by rw[<- ha];exact Bool.toNat_le _
   have hb1:b<=1:=by rw[<- hb];exact Bool.toNat_le _
   have hs:=pE (k:=k) hle;have hc':=aO N M k;rw[ha,hb,hcy.out]at hs hc'
   have HS:=Lib.hid hs;have HA:=Lib.hid ha;have HB:=Lib.hid hb;have HC':=Lib.hid hc';clear hs ha hb hc';have hin:Bb wr p n c N:=hA.below hbw;have hin2:Bb wr q m d M:=hB.below hbw
   by_cases hlt:a<b+x
   .have HC:Hid (Hx N M (k+1)=1):=Lib.hid (by rw[HC'.out,if_pos hlt]);have HSI:Hid (bit (N-M) k=(((a:Int)-b-x+2)==1)):=Lib.hid (by
     rw[HS.out,Bool.eq_iff_iff];simp only[decide_eq_true_eq,beq_iff_eq];omega)
    go_wp2_with fail
    refine(Et wr p n c N k hin (by omega)).mono ?_;rintro e w1 ⟨rfl,rfl⟩;rw[HA.out]
    go_wp2_with fail
    refine(Et wr q m d M k hin2 (by omega)).mono ?_;rintro e w1 ⟨rfl,rfl⟩;rw[HB.out]
    go_wp2_with (at_builtin;refine wpList_append_own _ rfl _ _ 28 rfl w.heap.size 4 i0 (.bool false) 1 1 Tryz.underlying28 hi hz0 hz1 hz2 rfl (by decide) _ _ _ rfl (ho.alloc _) ⟨wr.heap.size,0,none⟩ 1 1 [.bool (((a:Int)-b-x+2)==1)] rfl rfl ?c1 ?c2 ?c3 ?c4 ?c5 ?_)
    case c1 =>
     intro jj u hj
     match jj,hj with
     | 0,hj=>simp at hj;subst hj;simp[Addr.add]
    case c2=>intro u hu;simp at hu;subst hu;rfl
    case c3=>unfold maxLen;omega
    case c4=>omega
    case c5=>have:=hbw.size;simp;omega
    intro v' w1 ho' hg _;have hbw1:Below w.heap.size w w1:=(hbw.alloc hbw.size _).grown hg (by have:=hbw.size;simp;omega) (fun j hj=>(ho.lt j hj).1);have ho1:w1.ownsRow w.heap.size 4 1 v' (k+1) ((Bx (N-M) (k+1)).map Value.bool):=by
     rw[Ei,List.map_append,HSI.out];exact ho'
    clear ho' hg ho;go_wp2;go_roundw
    case rel=>exact⟨k+1,1,by omega,rfl,rfl,by omega,HC,ho1,hbw1⟩
    case measure=>simp[intOf];omega
   .have HC:Hid (Hx N M (k+1)=0):=Lib.hid (by rw[HC'.out,if_neg hlt]);have HSI:Hid (bit (N-M) k=(((a:Int)-b-x)==1)):=Lib.hid (by
     rw[HS.out,Bool.eq_iff_iff];simp only[decide_eq_true_eq,beq_iff_eq];omega)
    go_wp2_with fail
    refine(Et wr p n c N k hin (by omega)).mono ?_;rintro e w1 ⟨rfl,rfl⟩;rw[HA.out]
    go_wp2_with fail
    refine(Et wr q m d M k hin2 (by omega)).mono ?_;rintro e w1 ⟨rfl,rfl⟩;rw[HB.out]
    go_wp2_with (at_builtin;refine wpList_append_own _ rfl _ _ 28 rfl w.heap.size 4 i0 (.bool false) 1 1 Tryz.underlying28 hi hz0 hz1 hz2 rfl (by decide) _ _ _ rfl (ho.alloc _) ⟨wr.heap.size,0,none⟩ 1 1 [.bool (((a:Int)-b-x)==1)] rfl rfl ?c1 ?c2 ?c3 ?c4 ?c5 ?_)
    case c1 =>
     intro jj u hj
     match jj,hj with
     | 0,hj=>simp at hj;subst hj;simp[Addr.add]
    case c2=>intro u hu;simp at hu;subst hu;rfl
    case c3=>unfold maxLen;omega
    case c4=>omega
    case c5=>have:=hbw.size;simp;omega
    intro v' w1 ho' hg _;have hbw1:Below w.heap.size w w1:=(hbw.alloc hbw.size _).grown hg (by have:=hbw.size;simp;omega) (fun j hj=>(ho.lt j hj).1);have ho1:w1.ownsRow w.heap.size 4 1 v' (k+1) ((Bx (N-M) (k+1)).map Value.bool):=by
     rw[Ei,List.map_append,HSI.out];exact ho'
    clear ho' hg ho;go_wp2;go_roundw
    case rel=>exact⟨k+1,0,by omega,rfl,rfl,by omega,HC,ho1,hbw1⟩
    case measure=>simp[intOf];omega
  .have HK:Hid (k=n):=Lib.hid (by omega);have hlt:Hid (N-M<2^k):=Lib.hid (by
    have:=(Bd N k).1 (by rw[<- HN.out];exact Nat.le_of_eq HK.out.symm);omega)
   obtain⟨q,d,rfl,hrow,hnew⟩:=Eb.of_owns ho
   go_wp2_with fail
   refine(Fi wr q k d (N-M) hrow hlt.out).mono ?_;rintro e w1 ⟨l,rfl,hm,rfl⟩;go_wp2;go_ret;exact⟨q,l,d,rfl,hm,hbw,hnew⟩
end Go.Proofs.YthgoeiegdhphjaaGreatDoor
