/- The document's sums and differences. -/
import Derived.Test.YtokhckjemidbpaaGreatDoorNatD
import Derived.Deep.QuietTactic
import Derived.BigQuiet
import Derived.RangeFuncNested
set_option maxRecDepth 1000000
set_option maxHeartbeats 16000000
set_option linter.all false
namespace Go.Proofs.YtokhckjemidbpaaGreatDoor
open Go Go.RowKit Go.Proofs.YtokhckjemidbpaaGreatDoor.Flow
def bit (N i:Nat):Bool:=decide (N/2^i%2=1)
def bitsOf (N:Nat):List Bool:=(List.range (Ao N)).map (bit N)
def Ci (N k:Nat):List Bool:=(List.range k).map (bit N)
theorem Fk (N k:Nat):Ci N (k+1)=Ci N k++[bit N k]:=by simp[Ci,List.range_succ]
theorem Nz (N k:Nat):(Ci N k).length=k:=by simp[Ci]
theorem Bh (N:Nat):(bitsOf N).length=Ao N:=by simp[bitsOf]
theorem Dq {N i:Nat}(h:i<Ao N):(bitsOf N)[i]? = some (bit N i):=by simp[bitsOf,h]
theorem eR {N k:Nat}(h:0<N/2^k):k<Ao N:=by
 rcases Nat.lt_or_ge k (Ao N) with h1|h1
 .exact h1
 .rw[Nat.div_eq_of_lt ((Bg N k).1 h1)]at h;omega
theorem oV {N k:Nat}(h:N/2^k=0)(hk:k<=Ao N):k=Ao N:=by
 refine Nat.le_antisymm hk ((Bg N k).2 ?_);exact(Nat.div_eq_zero_iff.1 h).resolve_left (by have:=Nat.pow_pos (n:=k) (show 0<2 by omega);omega)
theorem Nk (N k:Nat):N%2^(k+1)=N%2^k+(if bit N k then 2^k else 0):=by
 rw[Nat.pow_succ,Nat.mod_mul];unfold bit;have:N/2^k%2<2:=Nat.mod_lt _ (by omega)
 by_cases h:N/2^k%2=1
 .simp[h]
 .have:N/2^k%2=0:=by omega
  simp[this]
structure Gi (w:World) (p:Option Addr) (n c:Nat) (xs:List Bool):Prop where
 len:n=xs.length
 cap:n<=c
 max:c<=9223372036854775807
 at_:(p=none/\n=0/\c=0) ∨ ∃b off,p=some ⟨b,off,none⟩/\b<w.heap.size/\∀(i:Nat) (x:Bool),xs[i]? = some x->w.cell? ⟨b,off+i,none⟩=some (.bool x)
theorem Gi.below {w w':World}{p:Option Addr}{n c:Nat}{xs:List Bool}(h:Gi w p n c xs)(hb:Below w.heap.size w w'):Gi w' p n c xs:=by
 refine⟨h.len,h.cap,h.max,?_⟩;rcases h.at_ with h1|⟨b,off,h1,h2,h3⟩
 .exact .inl h1
 .refine .inr ⟨b,off,h1,Ej h2 hb.size,fun i x hx=>?_⟩;rw[hb.cell (p:=⟨b,off+i,none⟩) h2];exact h3 i x hx
theorem Gi.nil (w:World):Gi w none 0 0 []:=⟨rfl,As _,by omega,.inl ⟨rfl,rfl,rfl⟩⟩
theorem Gi.pos {w:World}{p:Option Addr}{n c:Nat}{xs:List Bool}(h:Gi w p n c xs)(hn:0<n) :
  ∃b off,p=some ⟨b,off,none⟩/\b<w.heap.size/\∀(i:Nat) (x:Bool),xs[i]? = some x->w.cell? ⟨b,off+i,none⟩=some (.bool x):=by
 rcases h.at_ with h1|h1
 .omega
 .exact h1
theorem Gi.of_owns {w:World}{base:Nat}{e:TypeId}{v:Value}{n:Nat}{ws:List Bool}(h:w.ownsRow base e 1 v n (ws.map Value.bool)) :
  ∃q d,v=.slice q n d/\Gi w q n d ws/\Gd base q:=by
 have hl:ws.length=n:=by have:=h.1;simpa using this
 rcases h.2 with ⟨rfl,rfl⟩|⟨g,cap,cur,rfl,hb,hg,hnc,hcm,hcs,htake⟩
 .have:ws=[]:=List.eq_nil_of_length_eq_zero hl;subst this;exact⟨none,0,rfl,Gi.nil _,Gd.none _⟩
 .refine⟨_,cap,rfl,⟨hl.symm,hnc,by simpa [maxLen]using hcm,.inr ⟨g,0,rfl,(Kv hg).1,fun i x hx=>?_⟩⟩,fun q hq=>by cases hq;exact hb⟩;rw[Nat.zero_add,cell_of_row w g i cur e (0,0) hg];have hi:i<n:=by rw[<-hl];exact(List.getElem?_eq_some_iff.1 hx).1
  have:(cur.toList.take (n*1))[i]? = some (.bool x):=by rw[htake];simp[hx]
  rw[List.getElem?_take,if_pos (by omega)]at this
  simpa using this
theorem Tryz.info_bool:(Tryz.prog.info? 4).map (fun i=>(i.zero,i.size,i.bytes))=some (some (.bool false),1,1):=by kernel_rfl
def Bi (w:World)(p:Option Addr)(n c N:Nat):Prop:=Gi w p n c (bitsOf N)
theorem Bi.below {w w':World}{p:Option Addr}{n c N:Nat}(h:Bi w p n c N)(hb:Below w.heap.size w w'):Bi w' p n c N:=Gi.below h hb
theorem Ch {w:World}{q:Option Addr}{m d N:Nat}(k:Bi w q m d N):m=Ao N:=by have:=k.len;rwa [Bh]at this
def Iv (N:Nat)(w:World)(e:Ending)(w':World):Prop:=∃p n c,e=.returned (.slice p n c)/\Bi w' p n c N/\Below w.heap.size w w'/\Gd w.heap.size p
theorem Fb (N:Nat)(w:World)(hN:N<18446744073709551616) :
  Calls Tryz.prog 20 #[.int .u64 N] w (Iv N w):=by
 obtain⟨i0,hi,hz0,hz1,hz2⟩:=info_parts Tryz.info_bool;have h64:Ao N<=64:=(Bg N 64).2 hN;have hown:=World.ownsRow_made w (base:=w.heap.size) (e := 4) (size:=1) #[] 0 (As _) (by simp[maxLen]) (by simp);go_enter Tryz.func20,Tryz.ntmps20;go_wp2
 go_loopw [0,3] (fun u v wr=>∃k x:Nat,k<=Ao N/\Hid (N/2^k=x)/\u=.int .u64 x/\x<18446744073709551616/\wr.ownsRow w.heap.size 4 1 v k ((Ci N k).map Value.bool)/\Below w.heap.size w wr) (fun u _ _=>(intOf u).toNat)
 case atStart=>
  refine⟨0,N,Nat.zero_le _,Ag (by simp),rfl,hN,?_,(Bb _ _).alloc (As _) _⟩;simpa [Ci]using hown
 case round=>
  obtain⟨k,x,hk,hx,rfl,hx1,ho,hbw⟩:=hrel;have hh:Hid (N/2^(k+1)=x/2):=Ag (by rw[Nat.pow_succ,<-Nat.div_div_eq_div_mul,hx.out]);have hbt:bit N k=((x:Int)%2==1):=by
   unfold bit;rw[hx.out,Bool.eq_iff_iff];simp;omega
  have HB:=Ag hbt;clear hbt
  go_wp2_with (at_builtin;refine wpList_append_own _ rfl _ _ 28 rfl w.heap.size 4 i0 (.bool false) 1 1 Tryz.underlying28 hi hz0 hz1 hz2 rfl (by decide) _ _ _ rfl (ho.alloc _) ⟨wr.heap.size,0,none⟩ 1 1 [.bool ((x:Int)%2==1)] rfl rfl ?c1 ?c2 ?c3 ?c4 ?c5 ?_)
  case c1=>
   intro j u hj
   match j,hj with
   | 0,hj=>simp at hj;subst hj;simp[Addr.add]
  case c2=>intro u hu;simp at hu;subst hu;rfl
  case c3=>unfold maxLen;omega
  case c4=>omega
  case c5=>have:=hbw.size;simp;omega
  .intro v' w1 ho' hg _;have hx0:0<x:=by assumption
   have hkl:k<Ao N:=eR (by rw[hx.out];exact hx0);have hbw1:Below w.heap.size w w1:=(hbw.alloc hbw.size _).grown hg (by have:=hbw.size;simp;omega) (fun j hj=>(ho.lt j hj).1);have ho1:w1.ownsRow w.heap.size 4 1 v' (k+1) ((Ci N (k+1)).map Value.bool):=by
    rw[Fk,List.map_append,HB.out];exact ho'
   clear ho' hg ho;go_wp2;go_roundw
   case rel=>exact⟨k+1,x/2,by omega,hh,by simp[Int.natCast_ediv],by omega,ho1,hbw1⟩
   case measure=>simp[intOf];omega
  .have hx0:¬0<x:=by assumption
   have hkl:k=Ao N:=oV (by rw[hx.out];omega) hk;subst hkl;obtain⟨q,d,rfl,hrow,hq⟩:=Gi.of_owns ho;go_ret;exact⟨q,Ao N,d,rfl,hrow,hbw,hq⟩
theorem Ji {N L i:Nat}(h:i<L):(Ci N L)[i]? = some (bit N i):=by simp[Ci,h]
theorem iN (N:Nat):bitsOf N=Ci N (Ao N):=rfl
theorem bG {N L k:Nat}(h:k<=L):(Ci N L).take k=Ci N k:=by
 apply List.ext_getElem?;intro i;rw[List.getElem?_take];split
 .rw[Ji (by omega),Ji (by omega)]
 .rw[List.getElem?_eq_none (by rw[Nz];omega)]
theorem gK {N m:Nat}(h:N<2^(m+1))(hb:bit N m=false):N<2^m:=by
 have h1:=Nk N m;rw[Nat.mod_eq_of_lt h,hb]at h1
 simp only[Bool.false_eq_true,if_false,Nat.add_zero]at h1;rw[h1];exact Nat.mod_lt _ (Nat.pow_pos (by omega))
theorem bD {N m:Nat}(h:N<2^(m+1))(hb:bit N m=true):Ao N=m+1:=by
 refine Nat.le_antisymm ((Bg N _).2 h) ?_;refine eR ?_;unfold bit at hb;have h3:N/2^m%2=1:=by simpa using hb
 generalize N/2^m=z at *;omega
theorem Gi.take {w:World}{p:Option Addr}{n c:Nat}{xs:List Bool}(h:Gi w p n c xs)(m:Nat)(hm:m<=n):Gi w p m c (xs.take m):=by
 have hl:=h.len;refine⟨by simp;omega,Dn hm h.cap,h.max,?_⟩;rcases h.at_ with ⟨h1,h2,h3⟩|⟨b,off,h1,h2,h3⟩
 .exact .inl ⟨h1,by omega,h3⟩
 .refine .inr ⟨b,off,h1,h2,fun i x hx=>h3 i x ?_⟩;rw[List.getElem?_take]at hx
  split at hx
  .exact hx
  .cases hx
def dY (N:Nat)(p:Option Addr)(c:Nat)(w:World)(e:Ending)(w':World):Prop:=∃m,e=.returned (.slice p m c)/\Bi w p m c N/\w=w'
theorem Gk (w:World)(p:Option Addr)(n c N:Nat)(h:Gi w p n c (Ci N n))(hN:N<2^n) :
  Calls Tryz.prog 135 #[.slice p n c] w (dY N p c w):=by
 have hm:=h.max;have hcp:=h.cap;go_enter Tryz.func135,Tryz.ntmps135;go_wp2
 go_loop [0] (fun s=>∃k:Nat,k<=n/\s=.slice p k c/\Hid (N<2^k)) (fun s=>match s with | .slice _ k _=>k|_=>0)
 case atStart=>exact⟨n,As _,rfl,Ag hN⟩
 case round=>
  obtain⟨k,hk,rfl,hv⟩:=hrel
  cases k with
  | zero=>
   have hN0:N=0:=by have:=hv.out;simp at this;omega
   have HN:=Ag hN0;clear hN0;go_wp2;go_ret;refine⟨0,rfl,?_,rfl⟩;have:=h.take 0 (by omega);rw[HN.out];exact this
  | succ m=>
   obtain⟨b,off,rfl,hb,hc⟩:=h.pos (by omega);obtain⟨x,hx⟩:∃x,bit N m=x:=⟨_,rfl⟩
   have hci:w.cell? ⟨b,off+m,none⟩=some (.bool x):=hc m x (by rw[Ji (by omega),hx]);have HX:=Ag hx;clear hc hx
   cases x with
   | false=>
    go_wp2;go_round
    case rel=>exact⟨m,by omega,rfl,Ag (gK hv.out HX.out)⟩
    case measure=>simp
   | true=>
    go_wp2;go_ret;have e:=bD hv.out HX.out;refine⟨m+1,rfl,?_,rfl⟩;have:=h.take (m+1) hk;rw[bG hk,<-e,<-iN]at this
    rw[<-e];exact this
theorem pY (xs:List Nat)(h:Au xs):∀j,le xs/B8 j%256=xs.getD j 0:=by
 induction xs with
 | nil=>intro j;simp[le]
 | cons x xs ih=>
  have hx:x<256:=h x (by simp);have ih:=ih (fun y hy=>h y (by simp[hy]));intro j
  cases j with
  | zero=>simp only[le,Ju,Nat.div_one,List.getD_cons_zero];omega
  | succ j=>
   simp only[le,Hv,List.getD_cons_succ];rw[<-Nat.div_div_eq_div_mul,show (x+256*le xs)/256=le xs by omega];exact ih j
theorem Fl (N i:Nat):bit N i=N.testBit i:=by
 unfold bit;rw[Nat.testBit_eq_decide_div_mod_eq]
theorem mJ {N j k x:Nat}(hx:N/B8 j%256=x)(hk:k<8):bit N (8*j+k)=decide (x/2^k%2=1):=by
 show _=bit x k;rw[Fl,Fl,<-hx,Ih,show (256:Nat)=2^8 from rfl,Nat.testBit_mod_two_pow,Nat.testBit_div_two_pow];simp[hk,Nat.add_comm]
theorem qJ {N i:Nat}(h:Ao N<=i):bit N i=false:=by
 have h1:N<2^i:=(Bg N i).1 h;unfold bit;rw[Nat.div_eq_of_lt h1];rfl
theorem Ui {N M:Nat}(h:Ao N<Ao M):N<M:=by
 rcases Nat.lt_or_ge N M with h1|h1
 .exact h1
 .have:Ao M<=Ao N:=(Bg M _).2 (Nat.lt_of_le_of_lt h1 (Ec N));omega
theorem Ht (N i:Nat):N/2^i=2*(N/2^(i+1))+(bit N i).toNat:=by
 rw[Nat.pow_succ,<-Nat.div_div_eq_div_mul];unfold bit;generalize N/2^i=z
 by_cases h:z%2=1
 .simp[h];omega
 .simp[h];omega
theorem Tq {N M i:Nat}(h:N/2^(i+1)=M/2^(i+1))(h1:bit N i=false)(h2:bit M i=true):N<M:=by
 have e1:=Ht N i;have e2:=Ht M i;rw[h1]at e1
 rw[h2]at e2
 rcases Nat.lt_or_ge N M with h3|h3
 .exact h3
 .have:=Nat.div_le_div_right (c:=2^i) h3;simp only[Bool.toNat_true,Bool.toNat_false]at e1 e2;omega
theorem Ub {N M i:Nat}(h:N/2^(i+1)=M/2^(i+1))(h1:bit N i=bit M i):N/2^i=M/2^i:=by
 rw[Ht N i,Ht M i,h,h1]
def nC (N M:Nat)(w:World)(e:Ending)(w':World):Prop:=e=.returned (.int .i64 (Bo N M))/\Below w.heap.size w w'
theorem Od (w:World)(p:Option Addr)(n c N:Nat)(q:Option Addr)(m d M:Nat)(hA:Bi w p n c N)(hB:Bi w q m d M)(hn:n<=1000000000)(hm:m<=1000000000) :
  Calls Tryz.prog 36 #[.slice p n c,.slice q m d] w (nC N M w):=by
 have hl:n=Ao N:=by have:=hA.len;rwa [Bh]at this
 have hk:m=Ao M:=by have:=hB.len;rwa [Bh]at this
 have HN:=Ag hl;have HM:=Ag hk;clear hl hk
 by_cases h1:n<m
 .have HC:Hid (Bo N M = -1):=Ag (Dl (Ui (by rw[<-HN.out,<-HM.out];exact h1)));go_enter Tryz.func36,Tryz.ntmps36;go_wp2;go_ret;exact⟨by rw[HC.out];rfl,Bb _ _⟩
 by_cases h2:m<n
 .have HC:Hid (Bo N M=1):=Ag (Io (Ui (by rw[<-HN.out,<-HM.out];exact h2)));go_enter Tryz.func36,Tryz.ntmps36;go_wp2;go_ret;exact⟨by rw[HC.out];rfl,Bb _ _⟩
 obtain rfl:n=m:=by omega
 clear h1 h2;have hlt:¬(n:Int)<n:=by omega
 go_enter Tryz.func36,Tryz.ntmps36;go_wp2
 go_loopw [5] (fun i wr=>∃k:Nat,k<=n/\i=.int .i64 ((k:Int)-1)/\Hid (N/2^k=M/2^k)/\Below w.heap.size w wr) (fun i _=>(intOf i+1).toNat)
 case atStart=>
  refine⟨n,As _,rfl,Ag ?_,Bb _ _⟩;rw[Nat.div_eq_of_lt ((Bg N n).1 (by rw[<-HN.out];exact As _)),Nat.div_eq_of_lt ((Bg M n).1 (by rw[<-HM.out];exact As _))]
 case round=>
  obtain⟨k,hk,rfl,hq,hbw⟩:=hrel
  cases k with
  | zero=>
   have HC:Hid (Bo N M=0):=Ag (by
    have:=hq.out;rw[Nat.pow_zero,Nat.div_one,Nat.div_one]at this
    rw[this];exact Sh _)
   go_wp2;go_ret;exact⟨by rw[HC.out];rfl,hbw⟩
  | succ k=>
   obtain⟨b,off,rfl,hb,hc⟩:=hA.pos (by omega);obtain⟨b2,off2,rfl,hb2,hc2⟩:=hB.pos (by omega);obtain⟨x,hx⟩:∃x,bit N k=x:=⟨_,rfl⟩
   obtain⟨y,hy⟩:∃y,bit M k=y:=⟨_,rfl⟩
   have hcx:wr.cell? ⟨b,off+k,none⟩=some (.bool x):=by
    rw[(Ca hbw).1 _ _ hb];exact hc k x (by rw[Dq (by rw[<-HN.out];omega),hx])
   have hcy:wr.cell? ⟨b2,off2+k,none⟩=some (.bool y):=by
    rw[(Ca hbw).1 _ _ hb2];exact hc2 k y (by rw[Dq (by rw[<-HM.out];omega),hy])
   have HX:=Ag hx;have HY:=Ag hy;have e1:(((k+1:Nat):Int)-1)=(k:Int):=by omega
   simp only[e1];clear hc hc2 hx hy e1;cases x<;>cases y
   .go_wp2
    go_quiet (fail)
    go_wp2;go_roundw
    case rel=>exact⟨k,by omega,rfl,Ag (Ub hq.out (by rw[HX.out,HY.out])),below_drewN hbw _⟩
    case measure=>simp[intOf]
   .have HC:Hid (Bo N M = -1):=Ag (Dl (Tq hq.out HX.out HY.out));go_wp2
    go_quiet (fail)
    go_wp2;go_ret;exact⟨by rw[HC.out];rfl,below_drewN hbw _⟩
   .have HC:Hid (Bo N M=1):=Ag (Io (Tq hq.out.symm HY.out HX.out));go_wp2
    go_quiet (fail)
    go_wp2;go_ret;exact⟨by rw[HC.out];rfl,below_drewN hbw _⟩
   .go_wp2
    go_quiet (fail)
    go_wp2;go_roundw
    case rel=>exact⟨k,by omega,rfl,Ag (Ub hq.out (by rw[HX.out,HY.out])),below_drewN hbw _⟩
    case measure=>simp[intOf]
theorem Fx (w:World)(p:Option Addr)(n c N i:Nat)(h:Bi w p n c N)(hi:i<=1000000000000) :
  Calls Tryz.prog 193 #[.slice p n c,.int .i64 i] w fun e w'=>e=.returned (.int .i64 ((bit N i).toNat:Nat))/\w=w':=by
 have hl:n=Ao N:=by have:=h.len;rwa [Bh]at this
 have HN:=Ag hl;clear hl
 by_cases h1:i<n
 .obtain⟨b,off,rfl,hb,hc⟩:=h.pos (by omega);obtain⟨x,hx⟩:∃x,bit N i=x:=⟨_,rfl⟩
  have hcx:w.cell? ⟨b,off+i,none⟩=some (.bool x):=hc i x (by rw[Dq (by rw[<-HN.out];omega),hx]);rw[hx];clear hc hx;cases x
  .go_enter Tryz.func193,Tryz.ntmps193;go_wp2;go_ret;exact⟨rfl,rfl⟩
  .go_enter Tryz.func193,Tryz.ntmps193;go_wp2;go_ret;exact⟨rfl,rfl⟩
 .rw[qJ (by rw[<-HN.out];omega)];go_enter Tryz.func193,Tryz.ntmps193;go_wp2;go_ret;exact⟨rfl,rfl⟩
def carry (N M k:Nat):Nat:=(N%2^k+M%2^k)/2^k
theorem Me (N k:Nat):N%2^(k+1)=N%2^k+2^k*(bit N k).toNat:=by
 rw[Nk];cases bit N k<;>simp
theorem qW (N M k:Nat):carry N M k<=1:=by
 have hp:0<2^k:=Nat.pow_pos (by omega);have h1:=Nat.mod_lt N hp;have h2:=Nat.mod_lt M hp;unfold carry;have:(N%2^k+M%2^k)/2^k<2:=by rw[Nat.div_lt_iff_lt_mul hp];omega
 omega
theorem dN (N M:Nat):carry N M 0=0:=by simp[carry,Nat.mod_one]
theorem dO (N M k:Nat):carry N M (k+1)=((bit N k).toNat+(bit M k).toNat+carry N M k)/2:=by
 have hp:0<2^k:=Nat.pow_pos (by omega);unfold carry;rw[Me,Me,Nat.pow_succ,<-Nat.div_div_eq_div_mul]
 congr 1
 rw[show N%2^k+2^k*(bit N k).toNat+(M%2^k+2^k*(bit M k).toNat)=2^k*((bit N k).toNat+(bit M k).toNat)+(N%2^k+M%2^k) by rw[Nat.mul_add];omega];rw[Nat.mul_add_div hp]
theorem oY (N M k:Nat):bit (N+M) k=decide (((bit N k).toNat+(bit M k).toNat+carry N M k)%2=1):=by
 have hp:0<2^k:=Nat.pow_pos (by omega);have e:(N+M)/2^k=N/2^k+M/2^k+carry N M k:=by
  unfold carry
  conv=>lhs;rw[<-Nat.div_add_mod N (2^k),<-Nat.div_add_mod M (2^k)]
  rw[show 2^k*(N/2^k)+N%2^k+(2^k*(M/2^k)+M%2^k)=2^k*(N/2^k+M/2^k)+(N%2^k+M%2^k) by rw[Nat.mul_add];omega];rw[Nat.mul_add_div hp]
 have e1:=Ht N k;have e2:=Ht M k;show decide ((N+M)/2^k%2=1)=_;rw[e,decide_eq_decide];omega
theorem iH {N M k:Nat}(h:0<carry N M k):k<=Ao N+Ao M:=by
 have hp:0<2^k:=Nat.pow_pos (by omega);unfold carry at h;have h1:=Nat.mod_le N (2^k);have h2:=Nat.mod_le M (2^k);have h3:2^k<=N%2^k+M%2^k:=by
  rcases Nat.lt_or_ge (N%2^k+M%2^k) (2^k) with h4|h4
  .rw[Nat.div_eq_of_lt h4]at h;omega
  .exact h4
 have h4:=Ec N;have h5:=Ec M;have h6:2^Ao N<=2^(Ao N+Ao M):=Nat.pow_le_pow_right (by omega) (by omega);have h7:2^Ao M<=2^(Ao N+Ao M):=Nat.pow_le_pow_right (by omega) (by omega);have h8:2^k<2^(Ao N+Ao M+1):=by rw[Nat.pow_succ];omega
 have:=(Nat.pow_lt_pow_iff_right (show 1<2 by omega)).1 h8;omega
theorem sum_lt {N M k:Nat}(h1:Ao N<=k)(h2:Ao M<=k)(h3:carry N M k=0):N+M<2^k:=by
 have hp:0<2^k:=Nat.pow_pos (by omega);have h4:=(Bg N k).1 h1;have h5:=(Bg M k).1 h2;unfold carry at h3;rw[Nat.mod_eq_of_lt h4,Nat.mod_eq_of_lt h5]at h3
 exact(Nat.div_eq_zero_iff.1 h3).resolve_left (by omega)
theorem Tf (w:World)(p:Option Addr)(n c N:Nat)(q:Option Addr)(m d M:Nat)(hA:Bi w p n c N)(hB:Bi w q m d M)(hn:n<=1000000)(hm:m<=1000000) :
  Calls Tryz.prog 139 #[.slice p n c,.slice q m d] w (Iv (N+M) w):=by
 obtain⟨i0,hi,hz0,hz1,hz2⟩:=info_parts Tryz.info_bool;have hl:n=Ao N:=by have:=hA.len;rwa [Bh]at this
 have hk:m=Ao M:=by have:=hB.len;rwa [Bh]at this
 have HN:=Ag hl;have HM:=Ag hk;clear hl hk;have hown:=World.ownsRow_made w (base:=w.heap.size) (e := 4) (size:=1) #[] 0 (As _) (by simp[maxLen]) (by simp);go_enter Tryz.func139,Tryz.ntmps139;go_wp2
 go_loopw [5,6,7,8] (fun v cy i _ wr=>∃k x:Nat,k<=n+m+1/\i=.int .i64 k/\cy=.int .i64 x/\x<=1/\Hid (carry N M k=x)/\wr.ownsRow w.heap.size 4 1 v k ((Ci (N+M) k).map Value.bool)/\Below w.heap.size w wr) (fun _ _ i _ _=>n+m+2-(intOf i).toNat)
 case atStart=>
  refine⟨0,0,by omega,rfl,rfl,by omega,Ag (dN _ _),?_,(Bb _ _).alloc (As _) _⟩;simpa [Ci]using hown
 case round=>
  obtain⟨k,x,hk,rfl,rfl,hx1,hcy,ho,hbw⟩:=hrel;have hgo:(k<n ∨ k<m ∨ 0<x)->k<=n+m:=by
   rintro(h1|h1|h1)
   .omega
   .omega
   .have:=iH (N:=N) (M:=M) (k:=k) (by rw[hcy.out];exact h1);rw[<-HN.out,<-HM.out]at this;exact this
  have hstep:(k<=n+m)->True:=fun _=>trivial
  obtain⟨a,ha⟩:∃a,(bit N k).toNat=a:=⟨_,rfl⟩
  obtain⟨b,hb⟩:∃b,(bit M k).toNat=b:=⟨_,rfl⟩
  have ha1:a<=1:=by rw[<-ha];exact Bool.toNat_le _
  have hb1:b<=1:=by rw[<-hb];exact Bool.toNat_le _
  have hs:=oY N M k;have hc':=dO N M k;rw[ha,hb,hcy.out]at hs hc'
  have HS:=Ag hs;have HC:=Ag hc';have HA:=Ag ha;have HB:=Ag hb;have HE:Hid (¬(k<n ∨ k<m ∨ 0<x)->N+M<2^k):=Ag (fun h=>sum_lt (by rw[<-HN.out];omega) (by rw[<-HM.out];omega) (by rw[hcy.out];omega));have HG:=Ag hgo;clear hs hc' ha hb hgo hstep;have hin:Bi wr p n c N:=hA.below hbw;have hin2:Bi wr q m d M:=hB.below hbw;have HSI:Hid (bit (N+M) k=(((a:Int)+b+x)%2==1)):=Ag (by
   rw[HS.out,Bool.eq_iff_iff];simp only[decide_eq_true_eq,beq_iff_eq];omega)
  by_cases h1:k<n
  .have hkl:k<=n+m:=HG.out (.inl h1)
   go_wp2_with fail
   refine(Fx wr p n c N k hin (by omega)).mono ?_;rintro e w1 ⟨rfl,rfl⟩;rw[HA.out]
   go_wp2_with fail
   refine(Fx wr q m d M k hin2 (by omega)).mono ?_;rintro e w1 ⟨rfl,rfl⟩;rw[HB.out]
   go_wp2_with (at_builtin;refine wpList_append_own _ rfl _ _ 28 rfl w.heap.size 4 i0 (.bool false) 1 1 Tryz.underlying28 hi hz0 hz1 hz2 rfl (by decide) _ _ _ rfl (ho.alloc _) ⟨wr.heap.size,0,none⟩ 1 1 [.bool (((a:Int)+b+x)%2==1)] rfl rfl ?c1 ?c2 ?c3 ?c4 ?c5 ?_)
   case c1=>
    intro jj u hj
    match jj,hj with
    | 0,hj=>simp at hj;subst hj;simp[Addr.add]
   case c2=>intro u hu;simp at hu;subst hu;rfl
   case c3=>unfold maxLen;omega
   case c4=>omega
   case c5=>have:=hbw.size;simp;omega
   intro v' w1 ho' hg _;have hbw1:Below w.heap.size w w1:=(hbw.alloc hbw.size _).grown hg (by have:=hbw.size;simp;omega) (fun j hj=>(ho.lt j hj).1);have ho1:w1.ownsRow w.heap.size 4 1 v' (k+1) ((Ci (N+M) (k+1)).map Value.bool):=by
    rw[Fk,List.map_append,HSI.out];exact ho'
   clear ho' hg ho;go_wp2;go_roundw
   case rel=>exact⟨k+1,(a+b+x)/2,by omega,by go_num,by go_num,by omega,HC,ho1,hbw1⟩
   case measure=>simp[intOf];omega
  by_cases h2:k<m
  .have hkl:k<=n+m:=HG.out (.inr (.inl h2))
   go_wp2_with fail
   refine(Fx wr p n c N k hin (by omega)).mono ?_;rintro e w1 ⟨rfl,rfl⟩;rw[HA.out]
   go_wp2_with fail
   refine(Fx wr q m d M k hin2 (by omega)).mono ?_;rintro e w1 ⟨rfl,rfl⟩;rw[HB.out]
   go_wp2_with (at_builtin;refine wpList_append_own _ rfl _ _ 28 rfl w.heap.size 4 i0 (.bool false) 1 1 Tryz.underlying28 hi hz0 hz1 hz2 rfl (by decide) _ _ _ rfl (ho.alloc _) ⟨wr.heap.size,0,none⟩ 1 1 [.bool (((a:Int)+b+x)%2==1)] rfl rfl ?c1 ?c2 ?c3 ?c4 ?c5 ?_)
   case c1=>
    intro jj u hj
    match jj,hj with
    | 0,hj=>simp at hj;subst hj;simp[Addr.add]
   case c2=>intro u hu;simp at hu;subst hu;rfl
   case c3=>unfold maxLen;omega
   case c4=>omega
   case c5=>have:=hbw.size;simp;omega
   intro v' w1 ho' hg _;have hbw1:Below w.heap.size w w1:=(hbw.alloc hbw.size _).grown hg (by have:=hbw.size;simp;omega) (fun j hj=>(ho.lt j hj).1);have ho1:w1.ownsRow w.heap.size 4 1 v' (k+1) ((Ci (N+M) (k+1)).map Value.bool):=by
    rw[Fk,List.map_append,HSI.out];exact ho'
   clear ho' hg ho;go_wp2;go_roundw
   case rel=>exact⟨k+1,(a+b+x)/2,by omega,by go_num,by go_num,by omega,HC,ho1,hbw1⟩
   case measure=>simp[intOf];omega
  by_cases h3:0<x
  .have hkl:k<=n+m:=HG.out (.inr (.inr h3))
   go_wp2_with fail
   refine(Fx wr p n c N k hin (by omega)).mono ?_;rintro e w1 ⟨rfl,rfl⟩;rw[HA.out]
   go_wp2_with fail
   refine(Fx wr q m d M k hin2 (by omega)).mono ?_;rintro e w1 ⟨rfl,rfl⟩;rw[HB.out]
   go_wp2_with (at_builtin;refine wpList_append_own _ rfl _ _ 28 rfl w.heap.size 4 i0 (.bool false) 1 1 Tryz.underlying28 hi hz0 hz1 hz2 rfl (by decide) _ _ _ rfl (ho.alloc _) ⟨wr.heap.size,0,none⟩ 1 1 [.bool (((a:Int)+b+x)%2==1)] rfl rfl ?c1 ?c2 ?c3 ?c4 ?c5 ?_)
   case c1=>
    intro jj u hj
    match jj,hj with
    | 0,hj=>simp at hj;subst hj;simp[Addr.add]
   case c2=>intro u hu;simp at hu;subst hu;rfl
   case c3=>unfold maxLen;omega
   case c4=>omega
   case c5=>have:=hbw.size;simp;omega
   intro v' w1 ho' hg _;have hbw1:Below w.heap.size w w1:=(hbw.alloc hbw.size _).grown hg (by have:=hbw.size;simp;omega) (fun j hj=>(ho.lt j hj).1);have ho1:w1.ownsRow w.heap.size 4 1 v' (k+1) ((Ci (N+M) (k+1)).map Value.bool):=by
    rw[Fk,List.map_append,HSI.out];exact ho'
   clear ho' hg ho;go_wp2;go_roundw
   case rel=>exact⟨k+1,(a+b+x)/2,by omega,by go_num,by go_num,by omega,HC,ho1,hbw1⟩
   case measure=>simp[intOf];omega
  have hlt:=Ag (HE.out (by omega));obtain⟨q,d,rfl,hrow,hnew⟩:=Gi.of_owns ho
  go_wp2_with fail
  refine(Gk wr q k d (N+M) hrow hlt.out).mono ?_;rintro e w1 ⟨l,rfl,hm,rfl⟩;go_wp2;go_ret;exact⟨q,l,d,rfl,hm,hbw,hnew⟩
def Jg (N M k:Nat):Nat:=if N%2^k<M%2^k then 1 else 0
theorem aY (N M:Nat):Jg N M 0=0:=by simp[Jg,Nat.mod_one]
theorem aZ (N M k:Nat):Jg N M (k+1)=if (bit N k).toNat<(bit M k).toNat+Jg N M k then 1 else 0:=by
 have hp:0<2^k:=Nat.pow_pos (by omega);have h1:=Nat.mod_lt N hp;have h2:=Nat.mod_lt M hp;unfold Jg;rw[Me,Me];generalize N%2^k=n at *;generalize M%2^k=m at *;generalize 2^k=P at *
 by_cases hlt:n<m
 .rw[if_pos hlt];cases bit N k<;>cases bit M k<;>simp only[Bool.toNat_true,Bool.toNat_false,Nat.mul_zero,Nat.mul_one]
  .rw[if_pos (by omega),if_pos (by omega)]
  .rw[if_pos (by omega),if_pos (by omega)]
  .rw[if_neg (by omega),if_neg (by omega)]
  .rw[if_pos (by omega),if_pos (by omega)]
 .rw[if_neg hlt];cases bit N k<;>cases bit M k<;>simp only[Bool.toNat_true,Bool.toNat_false,Nat.mul_zero,Nat.mul_one]
  .rw[if_neg (by omega),if_neg (by omega)]
  .rw[if_pos (by omega),if_pos (by omega)]
  .rw[if_neg (by omega),if_neg (by omega)]
  .rw[if_neg (by omega),if_neg (by omega)]
theorem oS {N M k:Nat}(h:M<=N):(N-M)/2^k+M/2^k+Jg N M k=N/2^k:=by
 have hp:0<2^k:=Nat.pow_pos (by omega);have h1:=Nat.mod_lt N hp;have h2:=Nat.mod_lt M hp;have e1:=Nat.div_add_mod N (2^k);have e2:=Nat.div_add_mod M (2^k);unfold Jg;generalize N/2^k=A at *;generalize M/2^k=B at *;generalize N%2^k=n at *;generalize M%2^k=m at *;generalize 2^k=P at *;split
 .rename_i hlt
  have hAB:B+1<=A:=by
   rcases Nat.lt_or_ge B A with h3|h3
   .exact h3
   .have:=Nat.mul_le_mul_left P h3;omega
  obtain⟨E,rfl⟩:∃E,A=B+1+E:=⟨A-(B+1),by omega⟩
  have e3:N-M=P*E+(n+P-m):=by
   rw[Nat.mul_add,Nat.mul_add,Nat.mul_one]at e1
   omega
  rw[e3,Nat.mul_add_div hp,Nat.div_eq_of_lt (by omega)];omega
 .rename_i hlt
  have hAB:B<=A:=by
   rcases Nat.lt_or_ge A B with h3|h3
   .have:=Nat.mul_le_mul_left P (Nat.succ_le_of_lt h3);rw[Nat.succ_eq_add_one,Nat.mul_add,Nat.mul_one]at this
    omega
   .exact h3
  obtain⟨E,rfl⟩:∃E,A=B+E:=⟨A-B,by omega⟩
  have e3:N-M=P*E+(n-m):=by
   rw[Nat.mul_add]at e1
   omega
  rw[e3,Nat.mul_add_div hp,Nat.div_eq_of_lt (by omega)];omega
theorem oW {N M k:Nat}(h:M<=N):bit (N-M) k=decide (((bit N k).toNat+(bit M k).toNat+Jg N M k)%2=1):=by
 have e:=oS (k:=k) h;have e1:=Ht N k;have e2:=Ht M k;show decide ((N-M)/2^k%2=1)=_;rw[decide_eq_decide];omega
theorem Ob (w:World)(p:Option Addr)(n c N:Nat)(q:Option Addr)(m d M:Nat)(hA:Bi w p n c N)(hB:Bi w q m d M)(hn:n<=1000000)(hle:M<=N) :
  Calls Tryz.prog 192 #[.slice p n c,.slice q m d] w (Iv (N-M) w):=by
 obtain⟨i0,hi,hz0,hz1,hz2⟩:=info_parts Tryz.info_bool;have hl:n=Ao N:=by have:=hA.len;rwa [Bh]at this
 have HN:=Ag hl;clear hl;have hown:=World.ownsRow_made w (base:=w.heap.size) (e := 4) (size:=1) #[] 0 (As _) (by simp[maxLen]) (by simp);go_enter Tryz.func192,Tryz.ntmps192;go_wp2
 go_loopw [5,6,7,8] (fun v cy i _ wr=>∃k x:Nat,k<=n/\i=.int .i64 k/\cy=.int .i64 x/\x<=1/\Hid (Jg N M k=x)/\wr.ownsRow w.heap.size 4 1 v k ((Ci (N-M) k).map Value.bool)/\Below w.heap.size w wr) (fun _ _ i _ _=>n-(intOf i).toNat)
 case atStart=>
  refine⟨0,0,by omega,rfl,rfl,by omega,Ag (aY _ _),?_,(Bb _ _).alloc (As _) _⟩;simpa [Ci]using hown
 case round=>
  obtain⟨k,x,hk,rfl,rfl,hx1,hcy,ho,hbw⟩:=hrel
  by_cases h1:k<n
  .obtain⟨a,ha⟩:∃a,(bit N k).toNat=a:=⟨_,rfl⟩
   obtain⟨b,hb⟩:∃b,(bit M k).toNat=b:=⟨_,rfl⟩
   have ha1:a<=1:=by rw[<-ha];exact Bool.toNat_le _
   have hb1:b<=1:=by rw[<-hb];exact Bool.toNat_le _
   have hs:=oW (k:=k) hle;have hc':=aZ N M k;rw[ha,hb,hcy.out]at hs hc'
   have HS:=Ag hs;have HA:=Ag ha;have HB:=Ag hb;have HC':=Ag hc';clear hs ha hb hc';have hin:Bi wr p n c N:=hA.below hbw;have hin2:Bi wr q m d M:=hB.below hbw
   by_cases hlt:a<b+x
   .have HC:Hid (Jg N M (k+1)=1):=Ag (by rw[HC'.out,if_pos hlt]);have HSI:Hid (bit (N-M) k=(((a:Int)-b-x+2)==1)):=Ag (by
     rw[HS.out,Bool.eq_iff_iff];simp only[decide_eq_true_eq,beq_iff_eq];omega)
    go_wp2_with fail
    refine(Fx wr p n c N k hin (by omega)).mono ?_;rintro e w1 ⟨rfl,rfl⟩;rw[HA.out]
    go_wp2_with fail
    refine(Fx wr q m d M k hin2 (by omega)).mono ?_;rintro e w1 ⟨rfl,rfl⟩;rw[HB.out]
    go_wp2_with (at_builtin;refine wpList_append_own _ rfl _ _ 28 rfl w.heap.size 4 i0 (.bool false) 1 1 Tryz.underlying28 hi hz0 hz1 hz2 rfl (by decide) _ _ _ rfl (ho.alloc _) ⟨wr.heap.size,0,none⟩ 1 1 [.bool (((a:Int)-b-x+2)==1)] rfl rfl ?c1 ?c2 ?c3 ?c4 ?c5 ?_)
    case c1=>
     intro jj u hj
     match jj,hj with
     | 0,hj=>simp at hj;subst hj;simp[Addr.add]
    case c2=>intro u hu;simp at hu;subst hu;rfl
    case c3=>unfold maxLen;omega
    case c4=>omega
    case c5=>have:=hbw.size;simp;omega
    intro v' w1 ho' hg _;have hbw1:Below w.heap.size w w1:=(hbw.alloc hbw.size _).grown hg (by have:=hbw.size;simp;omega) (fun j hj=>(ho.lt j hj).1);have ho1:w1.ownsRow w.heap.size 4 1 v' (k+1) ((Ci (N-M) (k+1)).map Value.bool):=by
     rw[Fk,List.map_append,HSI.out];exact ho'
    clear ho' hg ho;go_wp2;go_roundw
    case rel=>exact⟨k+1,1,by omega,rfl,rfl,by omega,HC,ho1,hbw1⟩
    case measure=>simp[intOf];omega
   .have HC:Hid (Jg N M (k+1)=0):=Ag (by rw[HC'.out,if_neg hlt]);have HSI:Hid (bit (N-M) k=(((a:Int)-b-x)==1)):=Ag (by
     rw[HS.out,Bool.eq_iff_iff];simp only[decide_eq_true_eq,beq_iff_eq];omega)
    go_wp2_with fail
    refine(Fx wr p n c N k hin (by omega)).mono ?_;rintro e w1 ⟨rfl,rfl⟩;rw[HA.out]
    go_wp2_with fail
    refine(Fx wr q m d M k hin2 (by omega)).mono ?_;rintro e w1 ⟨rfl,rfl⟩;rw[HB.out]
    go_wp2_with (at_builtin;refine wpList_append_own _ rfl _ _ 28 rfl w.heap.size 4 i0 (.bool false) 1 1 Tryz.underlying28 hi hz0 hz1 hz2 rfl (by decide) _ _ _ rfl (ho.alloc _) ⟨wr.heap.size,0,none⟩ 1 1 [.bool (((a:Int)-b-x)==1)] rfl rfl ?c1 ?c2 ?c3 ?c4 ?c5 ?_)
    case c1=>
     intro jj u hj
     match jj,hj with
     | 0,hj=>simp at hj;subst hj;simp[Addr.add]
    case c2=>intro u hu;simp at hu;subst hu;rfl
    case c3=>unfold maxLen;omega
    case c4=>omega
    case c5=>have:=hbw.size;simp;omega
    intro v' w1 ho' hg _;have hbw1:Below w.heap.size w w1:=(hbw.alloc hbw.size _).grown hg (by have:=hbw.size;simp;omega) (fun j hj=>(ho.lt j hj).1);have ho1:w1.ownsRow w.heap.size 4 1 v' (k+1) ((Ci (N-M) (k+1)).map Value.bool):=by
     rw[Fk,List.map_append,HSI.out];exact ho'
    clear ho' hg ho;go_wp2;go_roundw
    case rel=>exact⟨k+1,0,by omega,rfl,rfl,by omega,HC,ho1,hbw1⟩
    case measure=>simp[intOf];omega
  .have HK:Hid (k=n):=Ag (by omega);have hlt:Hid (N-M<2^k):=Ag (by
    have:=(Bg N k).1 (by rw[<-HN.out];exact Nat.le_of_eq HK.out.symm);omega)
   obtain⟨q,d,rfl,hrow,hnew⟩:=Gi.of_owns ho
   go_wp2_with fail
   refine(Gk wr q k d (N-M) hrow hlt.out).mono ?_;rintro e w1 ⟨l,rfl,hm,rfl⟩;go_wp2;go_ret;exact⟨q,l,d,rfl,hm,hbw,hnew⟩
end Go.Proofs.YtokhckjemidbpaaGreatDoor
