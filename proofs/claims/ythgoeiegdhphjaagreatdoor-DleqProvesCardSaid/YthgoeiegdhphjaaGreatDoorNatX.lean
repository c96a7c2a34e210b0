/- The document's sums and differences. -/
import Derived.Test.YthgoeiegdhphjaaGreatDoorFit
import Derived.Deep.QuietTactic
import Derived.BigQuiet
import Derived.RangeFuncNested
set_option maxRecDepth 1000000
set_option maxHeartbeats 16000000
set_option linter.all false
namespace Go.Proofs.YthgoeiegdhphjaaGreatDoor
open Go Go.RowKit Go.Proofs.YthgoeiegdhphjaaGreatDoor.Flow
theorem Iw {N L i:Nat}(h:i<L):(Ce N L)[i]? = some (bit N i):=by simp[Ce,h]
theorem jP (N:Nat):bitsOf N=Ce N (Ap N):=rfl
theorem bP {N L k:Nat}(h:k<=L):(Ce N L).take k=Ce N k:=by
 apply List.ext_getElem?;intro i;rw[List.getElem?_take];split
 .rw[Iw (by omega),Iw (by omega)]
 .rw[List.getElem?_eq_none (by rw[Np];omega)]
theorem iM {N m:Nat}(h:N<2^(m+1))(hb:bit N m=false):N<2^m:=by
 have h1:=Je N m;rw[Nat.mod_eq_of_lt h,hb]at h1
 simp only[Bool.false_eq_true,if_false,Nat.add_zero]at h1;rw[h1];exact Nat.mod_lt _ (Nat.pow_pos (by omega))
theorem bN {N m:Nat}(h:N<2^(m+1))(hb:bit N m=true):Ap N=m+1:=by
 refine Nat.le_antisymm ((Bi N _).2 h) ?_;refine fS ?_;unfold bit at hb;have h3:N/2^m%2=1:=by simpa using hb
 generalize N/2^m=z at *;omega
theorem En.take {w:World}{p:Option Addr}{n c:Nat}{xs:List Bool}(h:En w p n c xs)(m:Nat)(hm:m<=n):En w p m c (xs.take m):=by
 have hl:=h.len;refine⟨by simp;omega,Dx hm h.cap,h.max,?_⟩;rcases h.at_ with ⟨h1,h2,h3⟩|⟨b,off,h1,h2,h3⟩
 .exact .inl ⟨h1,by omega,h3⟩
 .refine .inr ⟨b,off,h1,h2,fun i x hx=>h3 i x ?_⟩;rw[List.getElem?_take]at hx
  split at hx
  .exact hx
  .cases hx
def fB (N:Nat)(p:Option Addr)(c:Nat)(w:World)(e:Ending)(w':World):Prop:=∃m,e=.returned (.slice p m c)/\Bj w p m c N/\w=w'
theorem Gg (w:World)(p:Option Addr)(n c N:Nat)(h:En w p n c (Ce N n))(hN:N<2^n) :
  Calls Tryz.prog 149 #[.slice p n c] w (fB N p c w):=by
 have hm:=h.max;have hcp:=h.cap;go_enter Tryz.func149,Tryz.ntmps149;go_wp2
 go_loop [0] (fun s=>∃k:Nat,k<=n/\s=.slice p k c/\Hid (N<2^k)) (fun s=>match s with | .slice _ k _=>k|_=>0)
 case atStart=>exact⟨n,Av _,rfl,Ah hN⟩
 case round=>
  obtain⟨k,hk,rfl,hv⟩:=hrel
  cases k with
  | zero=>
   have hN0:N=0:=by have:=hv.out;simp at this;omega
   have HN:=Ah hN0;clear hN0;go_wp2;go_ret;refine⟨0,rfl,?_,rfl⟩;have:=h.take 0 (by omega);rw[HN.out];exact this
  | succ m=>
   obtain⟨b,off,rfl,hb,hc⟩:=h.pos (by omega);obtain⟨x,hx⟩:∃x,bit N m=x:=⟨_,rfl⟩
   have hci:w.cell? ⟨b,off+m,none⟩=some (.bool x):=hc m x (by rw[Iw (by omega),hx]);have HX:=Ah hx;clear hc hx
   cases x with
   | false=>
    go_wp2;go_round
    case rel=>exact⟨m,by omega,rfl,Ah (iM hv.out HX.out)⟩
    case measure=>simp
   | true=>
    go_wp2;go_ret;have e:=bN hv.out HX.out;refine⟨m+1,rfl,?_,rfl⟩;have:=h.take (m+1) hk;rw[bP hk,<-e,<-jP]at this
    rw[<-e];exact this
theorem rC (xs:List Nat)(h:Ay xs):∀j,le xs/B8 j%256=xs.getD j 0:=by
 induction xs with
 | nil=>intro j;simp[le]
 | cons x xs ih=>
  have hx:x<256:=h x (by simp);have ih:=ih (fun y hy=>h y (by simp[hy]));intro j
  cases j with
  | zero=>simp only[le,Ji,Nat.div_one,List.getD_cons_zero];omega
  | succ j=>
   simp only[le,Hp,List.getD_cons_succ];rw[<-Nat.div_div_eq_div_mul,show (x+256*le xs)/256=le xs by omega];exact ih j
theorem Fi (N i:Nat):bit N i=N.testBit i:=by
 unfold bit;rw[Nat.testBit_eq_decide_div_mod_eq]
theorem nR {N j k x:Nat}(hx:N/B8 j%256=x)(hk:k<8):bit N (8*j+k)=decide (x/2^k%2=1):=by
 show _=bit x k;rw[Fi,Fi,<-hx,Ib,show (256:Nat)=2^8 from rfl,Nat.testBit_mod_two_pow,Nat.testBit_div_two_pow];simp[hk,Nat.add_comm]
theorem rQ {bs:List Nat}(h:Ay bs){j k m:Nat}(hm:j+m+1=bs.length)(hk:k<8):bit (be bs) (8*j+k)=decide (bs.getD m 0/2^k%2=1):=by
 refine nR ?_ hk;unfold be;rw[rC _ h.reverse,aQ (by omega)]
 congr 1;omega
theorem Tl (w:World)(p:Option Addr)(n c:Nat)(bs:List Nat)(h:Bd w .u8 p n c bs)(hb8:Ay bs)(hn:n<=1000) :
  Calls Tryz.prog 97 #[.slice p n c] w (Ip (be bs) w):=by
 obtain⟨i0,hi,hz0,hz1,hz2⟩:=info_parts Tryz.info_bool;have HL:=Ah h.len;have hown:=World.ownsRow_made w (base:=w.heap.size) (e := 4) (size:=1) #[] 0 (Av _) (by simp[maxLen]) (by simp);obtain⟨N,hN⟩:∃N,be bs=N:=⟨_,rfl⟩
 have HN:=Ah hN;clear hN;go_enter Tryz.func97,Tryz.ntmps97;go_wp2
 go_loopw [3,4,5] (fun v i _ wr=>∃j m:Nat,j+m<=n/\n<=j+m/\i=.int .i64 ((m:Int)-1)/\wr.ownsRow w.heap.size 4 1 v (8*j) ((Ce N (8*j)).map Value.bool)/\Below w.heap.size w wr) (fun _ i _ _=>(intOf i+1).toNat)
 case atStart=>
  refine⟨0,n,by omega,by omega,rfl,?_,(Bg _ _).alloc (Av _) _⟩;simpa [Ce]using hown
 case round=>
  obtain⟨j,m,hj1,hj2,rfl,ho,hbw⟩:=hrel
  cases m with
  | zero=>
   have hjn:j=n:=by omega
   have HJ:=Ah hjn;clear hjn;obtain⟨q,d,rfl,hrow,hnew⟩:=En.of_owns ho;have hlt:N<2^(8*j):=by
    have:=hb8.reverse.lt;rw[<-HN.out];unfold be;rw[Ib]at this
    rw[HJ.out,HL.out];simpa using this
   have HLT:=Ah hlt;clear hlt
   go_wp2_with fail
   refine(Gg wr q (8*j) d N hrow HLT.out).mono ?_;rintro e w1 ⟨m,rfl,hm,rfl⟩;go_wp2;go_ret;rw[HN.out];exact⟨q,m,d,rfl,hm,hbw,hnew⟩
  | succ m=>
   obtain⟨b,off,rfl,hb,hc⟩:=(h.row (by omega)).pos (by omega);obtain⟨x,hx⟩:∃x,bs.getD m 0=x:=⟨_,rfl⟩
   have hci:w.cell? ⟨b,off+m,none⟩=some (.int .u8 (x:Nat)):=hc m x (by rw[<-hx,Dp];simp[show m<bs.length by have:=HL.out;omega]);have hx8:x<256:=by rw[<-hx];exact hb8.get m
   have HX:=Ah hx;clear hc hx;have e1:(((m+1:Nat):Int)-1)=(m:Int):=by omega
   simp only[e1];clear e1;obtain⟨wo,rfl⟩:∃wo:World,wo=wr:=⟨_,rfl⟩
   go_wp2
   go_loopw [3,5] (fun v k wr=>∃q:Nat,q<=8/\k=.int .i64 q/\wr.ownsRow w.heap.size 4 1 v (8*j+q) ((Ce N (8*j+q)).map Value.bool)/\Below w.heap.size w wr) (fun _ k _=>8-(intOf k).toNat)
   case atStart=>exact⟨0,by omega,rfl,ho,hbw⟩
   case round=>
    obtain⟨q,hq,rfl,ho2,hbw2⟩:=hrel
    by_cases hq8:q<8
    .have hq8':q<8:=hq8;have hbt:bit N (8*j+q)=(((x:Int)/2^q).tmod 2==1):=by
      rw[<-HN.out,rQ hb8 (m:=m) (by have:=HL.out;omega) hq8',HX.out,Bool.eq_iff_iff];have e:((x:Int)/2^q)=((x/2^q:Nat):Int):=by simp[Int.natCast_ediv]
      rw[e,Int.tmod_eq_emod_of_nonneg (Int.natCast_nonneg _)];simp only[decide_eq_true_eq,beq_iff_eq];omega
     have HB:=Ah hbt;clear hbt hq8';have hci2:wr.cell? ⟨b,off+m,none⟩=some (.int .u8 (x:Nat)):=by rw[(Bz hbw2).1 _ _ hb];exact hci
     go_wp2_with (at_builtin;refine wpList_append_own _ rfl _ _ 28 rfl w.heap.size 4 i0 (.bool false) 1 1 Tryz.underlying28 hi hz0 hz1 hz2 rfl (by decide) _ _ _ rfl (ho2.alloc _) ⟨wr.heap.size,0,none⟩ 1 1 [.bool (((x:Int)/2^q).tmod 2==1)] rfl rfl ?c1 ?c2 ?c3 ?c4 ?c5 ?_)
     case c1=>
      intro jj u hj
      match jj,hj with
      | 0,hj=>simp at hj;subst hj;simp[Addr.add]
     case c2=>intro u hu;simp at hu;subst hu;rfl
     case c3=>unfold maxLen;omega
     case c4=>omega
     case c5=>have:=hbw2.size;simp;omega
     intro v' w1 ho' hg _;have hbw1:Below w.heap.size w w1:=(hbw2.alloc hbw2.size _).grown hg (by have:=hbw2.size;simp;omega) (fun j hj=>(ho2.lt j hj).1);have ho1:w1.ownsRow w.heap.size 4 1 v' (8*j+(q+1)) ((Ce N (8*j+(q+1))).map Value.bool):=by
      rw[<-Nat.add_assoc,Fh,List.map_append,HB.out];exact ho'
     clear ho' hg ho2;go_wp2;go_roundw
     case rel=>exact⟨q+1,by omega,by go_num,ho1,hbw1⟩
     case measure=>simp[intOf];omega
    .have hq9:q=8:=by omega
     subst hq9;go_wp2;go_roundw
     case rel=>exact⟨j+1,m,by omega,by omega,rfl,ho2,hbw2⟩
     case measure=>simp[intOf]
theorem rP {N i:Nat}(h:Ap N<=i):bit N i=false:=by
 have h1:N<2^i:=(Bi N i).1 h;unfold bit;rw[Nat.div_eq_of_lt h1];rfl
theorem Um {N M:Nat}(h:Ap N<Ap M):N<M:=by
 rcases Nat.lt_or_ge N M with h1|h1
 .exact h1
 .have:Ap M<=Ap N:=(Bi M _).2 (Nat.lt_of_le_of_lt h1 (El N));omega
theorem Hm (N i:Nat):N/2^i=2*(N/2^(i+1))+(bit N i).toNat:=by
 rw[Nat.pow_succ,<-Nat.div_div_eq_div_mul];unfold bit;generalize N/2^i=z
 by_cases h:z%2=1
 .simp[h];omega
 .simp[h];omega
theorem Tt {N M i:Nat}(h:N/2^(i+1)=M/2^(i+1))(h1:bit N i=false)(h2:bit M i=true):N<M:=by
 have e1:=Hm N i;have e2:=Hm M i;rw[h1]at e1
 rw[h2]at e2
 rcases Nat.lt_or_ge N M with h3|h3
 .exact h3
 .have:=Nat.div_le_div_right (c:=2^i) h3;simp only[Bool.toNat_true,Bool.toNat_false]at e1 e2;omega
theorem Uc {N M i:Nat}(h:N/2^(i+1)=M/2^(i+1))(h1:bit N i=bit M i):N/2^i=M/2^i:=by
 rw[Hm N i,Hm M i,h,h1]
def oG (N M:Nat)(w:World)(e:Ending)(w':World):Prop:=e=.returned (.int .i64 (Bp N M))/\Below w.heap.size w w'
theorem Te (w:World)(p:Option Addr)(n c N:Nat)(q:Option Addr)(m d M:Nat)(hA:Bj w p n c N)(hB:Bj w q m d M)(hn:n<=1000000000)(hm:m<=1000000000) :
  Calls Tryz.prog 50 #[.slice p n c,.slice q m d] w (oG N M w):=by
 have hl:n=Ap N:=by have:=hA.len;rwa [Be]at this
 have hk:m=Ap M:=by have:=hB.len;rwa [Be]at this
 have HN:=Ah hl;have HM:=Ah hk;clear hl hk
 by_cases h1:n<m
 .have HC:Hid (Bp N M = -1):=Ah (Dm (Um (by rw[<-HN.out,<-HM.out];exact h1)));go_enter Tryz.func50,Tryz.ntmps50;go_wp2;go_ret;exact⟨by rw[HC.out];rfl,Bg _ _⟩
 by_cases h2:m<n
 .have HC:Hid (Bp N M=1):=Ah (Ij (Um (by rw[<-HN.out,<-HM.out];exact h2)));go_enter Tryz.func50,Tryz.ntmps50;go_wp2;go_ret;exact⟨by rw[HC.out];rfl,Bg _ _⟩
 obtain rfl:n=m:=by omega
 clear h1 h2;have hlt:¬(n:Int)<n:=by omega
 go_enter Tryz.func50,Tryz.ntmps50;go_wp2
 go_loopw [5] (fun i wr=>∃k:Nat,k<=n/\i=.int .i64 ((k:Int)-1)/\Hid (N/2^k=M/2^k)/\Below w.heap.size w wr) (fun i _=>(intOf i+1).toNat)
 case atStart=>
  refine⟨n,Av _,rfl,Ah ?_,Bg _ _⟩;rw[Nat.div_eq_of_lt ((Bi N n).1 (by rw[<-HN.out];exact Av _)),Nat.div_eq_of_lt ((Bi M n).1 (by rw[<-HM.out];exact Av _))]
 case round=>
  obtain⟨k,hk,rfl,hq,hbw⟩:=hrel
  cases k with
  | zero=>
   have HC:Hid (Bp N M=0):=Ah (by
    have:=hq.out;rw[Nat.pow_zero,Nat.div_one,Nat.div_one]at this
    rw[this];exact Si _)
   go_wp2;go_ret;exact⟨by rw[HC.out];rfl,hbw⟩
  | succ k=>
   obtain⟨b,off,rfl,hb,hc⟩:=hA.pos (by omega);obtain⟨b2,off2,rfl,hb2,hc2⟩:=hB.pos (by omega);obtain⟨x,hx⟩:∃x,bit N k=x:=⟨_,rfl⟩
   obtain⟨y,hy⟩:∃y,bit M k=y:=⟨_,rfl⟩
   have hcx:wr.cell? ⟨b,off+k,none⟩=some (.bool x):=by
    rw[(Bz hbw).1 _ _ hb];exact hc k x (by rw[Db (by rw[<-HN.out];omega),hx])
   have hcy:wr.cell? ⟨b2,off2+k,none⟩=some (.bool y):=by
    rw[(Bz hbw).1 _ _ hb2];exact hc2 k y (by rw[Db (by rw[<-HM.out];omega),hy])
   have HX:=Ah hx;have HY:=Ah hy;have e1:(((k+1:Nat):Int)-1)=(k:Int):=by omega
   simp only[e1];clear hc hc2 hx hy e1;cases x<;>cases y
   .go_wp2
    go_quiet (fail)
    go_wp2;go_roundw
    case rel=>exact⟨k,by omega,rfl,Ah (Uc hq.out (by rw[HX.out,HY.out])),below_drewN hbw _⟩
    case measure=>simp[intOf]
   .have HC:Hid (Bp N M = -1):=Ah (Dm (Tt hq.out HX.out HY.out));go_wp2
    go_quiet (fail)
    go_wp2;go_ret;exact⟨by rw[HC.out];rfl,below_drewN hbw _⟩
   .have HC:Hid (Bp N M=1):=Ah (Ij (Tt hq.out.symm HY.out HX.out));go_wp2
    go_quiet (fail)
    go_wp2;go_ret;exact⟨by rw[HC.out];rfl,below_drewN hbw _⟩
   .go_wp2
    go_quiet (fail)
    go_wp2;go_roundw
    case rel=>exact⟨k,by omega,rfl,Ah (Uc hq.out (by rw[HX.out,HY.out])),below_drewN hbw _⟩
    case measure=>simp[intOf]
theorem Ft (w:World)(p:Option Addr)(n c N i:Nat)(h:Bj w p n c N)(hi:i<=1000000000000) :
  Calls Tryz.prog 178 #[.slice p n c,.int .i64 i] w fun e w'=>e=.returned (.int .i64 ((bit N i).toNat:Nat))/\w=w':=by
 have hl:n=Ap N:=by have:=h.len;rwa [Be]at this
 have HN:=Ah hl;clear hl
 by_cases h1:i<n
 .obtain⟨b,off,rfl,hb,hc⟩:=h.pos (by omega);obtain⟨x,hx⟩:∃x,bit N i=x:=⟨_,rfl⟩
  have hcx:w.cell? ⟨b,off+i,none⟩=some (.bool x):=hc i x (by rw[Db (by rw[<-HN.out];omega),hx]);rw[hx];clear hc hx;cases x
  .go_enter Tryz.func178,Tryz.ntmps178;go_wp2;go_ret;exact⟨rfl,rfl⟩
  .go_enter Tryz.func178,Tryz.ntmps178;go_wp2;go_ret;exact⟨rfl,rfl⟩
 .rw[rP (by rw[<-HN.out];omega)];go_enter Tryz.func178,Tryz.ntmps178;go_wp2;go_ret;exact⟨rfl,rfl⟩
def carry (N M k:Nat):Nat:=(N%2^k+M%2^k)/2^k
theorem Lu (N k:Nat):N%2^(k+1)=N%2^k+2^k*(bit N k).toNat:=by
 rw[Je];cases bit N k<;>simp
theorem sI (N M k:Nat):carry N M k<=1:=by
 have hp:0<2^k:=Nat.pow_pos (by omega);have h1:=Nat.mod_lt N hp;have h2:=Nat.mod_lt M hp;unfold carry;have:(N%2^k+M%2^k)/2^k<2:=by rw[Nat.div_lt_iff_lt_mul hp];omega
 omega
theorem eJ (N M:Nat):carry N M 0=0:=by simp[carry,Nat.mod_one]
theorem eK (N M k:Nat):carry N M (k+1)=((bit N k).toNat+(bit M k).toNat+carry N M k)/2:=by
 have hp:0<2^k:=Nat.pow_pos (by omega);unfold carry;rw[Lu,Lu,Nat.pow_succ,<-Nat.div_div_eq_div_mul]
 congr 1
 rw[show N%2^k+2^k*(bit N k).toNat+(M%2^k+2^k*(bit M k).toNat)=2^k*((bit N k).toNat+(bit M k).toNat)+(N%2^k+M%2^k) by rw[Nat.mul_add];omega];rw[Nat.mul_add_div hp]
theorem qG (N M k:Nat):bit (N+M) k=decide (((bit N k).toNat+(bit M k).toNat+carry N M k)%2=1):=by
 have hp:0<2^k:=Nat.pow_pos (by omega);have e:(N+M)/2^k=N/2^k+M/2^k+carry N M k:=by
  unfold carry
  conv=>lhs;rw[<-Nat.div_add_mod N (2^k),<-Nat.div_add_mod M (2^k)]
  rw[show 2^k*(N/2^k)+N%2^k+(2^k*(M/2^k)+M%2^k)=2^k*(N/2^k+M/2^k)+(N%2^k+M%2^k) by rw[Nat.mul_add];omega];rw[Nat.mul_add_div hp]
 have e1:=Hm N k;have e2:=Hm M k;show decide ((N+M)/2^k%2=1)=_;rw[e,decide_eq_decide];omega
theorem jI {N M k:Nat}(h:0<carry N M k):k<=Ap N+Ap M:=by
 have hp:0<2^k:=Nat.pow_pos (by omega);unfold carry at h;have h1:=Nat.mod_le N (2^k);have h2:=Nat.mod_le M (2^k);have h3:2^k<=N%2^k+M%2^k:=by
  rcases Nat.lt_or_ge (N%2^k+M%2^k) (2^k) with h4|h4
  .rw[Nat.div_eq_of_lt h4]at h;omega
  .exact h4
 have h4:=El N;have h5:=El M;have h6:2^Ap N<=2^(Ap N+Ap M):=Nat.pow_le_pow_right (by omega) (by omega);have h7:2^Ap M<=2^(Ap N+Ap M):=Nat.pow_le_pow_right (by omega) (by omega);have h8:2^k<2^(Ap N+Ap M+1):=by rw[Nat.pow_succ];omega
 have:=(Nat.pow_lt_pow_iff_right (show 1<2 by omega)).1 h8;omega
theorem sum_lt {N M k:Nat}(h1:Ap N<=k)(h2:Ap M<=k)(h3:carry N M k=0):N+M<2^k:=by
 have hp:0<2^k:=Nat.pow_pos (by omega);have h4:=(Bi N k).1 h1;have h5:=(Bi M k).1 h2;unfold carry at h3;rw[Nat.mod_eq_of_lt h4,Nat.mod_eq_of_lt h5]at h3
 exact(Nat.div_eq_zero_iff.1 h3).resolve_left (by omega)
theorem Th (w:World)(p:Option Addr)(n c N:Nat)(q:Option Addr)(m d M:Nat)(hA:Bj w p n c N)(hB:Bj w q m d M)(hn:n<=1000000)(hm:m<=1000000) :
  Calls Tryz.prog 132 #[.slice p n c,.slice q m d] w (Ip (N+M) w):=by
 obtain⟨i0,hi,hz0,hz1,hz2⟩:=info_parts Tryz.info_bool;have hl:n=Ap N:=by have:=hA.len;rwa [Be]at this
 have hk:m=Ap M:=by have:=hB.len;rwa [Be]at this
 have HN:=Ah hl;have HM:=Ah hk;clear hl hk;have hown:=World.ownsRow_made w (base:=w.heap.size) (e := 4) (size:=1) #[] 0 (Av _) (by simp[maxLen]) (by simp);go_enter Tryz.func132,Tryz.ntmps132;go_wp2
 go_loopw [5,6,7,8] (fun v cy i _ wr=>∃k x:Nat,k<=n+m+1/\i=.int .i64 k/\cy=.int .i64 x/\x<=1/\Hid (carry N M k=x)/\wr.ownsRow w.heap.size 4 1 v k ((Ce (N+M) k).map Value.bool)/\Below w.heap.size w wr) (fun _ _ i _ _=>n+m+2-(intOf i).toNat)
 case atStart=>
  refine⟨0,0,by omega,rfl,rfl,by omega,Ah (eJ _ _),?_,(Bg _ _).alloc (Av _) _⟩;simpa [Ce]using hown
 case round=>
  obtain⟨k,x,hk,rfl,rfl,hx1,hcy,ho,hbw⟩:=hrel;have hgo:(k<n ∨ k<m ∨ 0<x)->k<=n+m:=by
   rintro(h1|h1|h1)
   .omega
   .omega
   .have:=jI (N:=N) (M:=M) (k:=k) (by rw[hcy.out];exact h1);rw[<-HN.out,<-HM.out]at this;exact this
  have hstep:(k<=n+m)->True:=fun _=>trivial
  obtain⟨a,ha⟩:∃a,(bit N k).toNat=a:=⟨_,rfl⟩
  obtain⟨b,hb⟩:∃b,(bit M k).toNat=b:=⟨_,rfl⟩
  have ha1:a<=1:=by rw[<-ha];exact Bool.toNat_le _
  have hb1:b<=1:=by rw[<-hb];exact Bool.toNat_le _
  have hs:=qG N M k;have hc':=eK N M k;rw[ha,hb,hcy.out]at hs hc'
  have HS:=Ah hs;have HC:=Ah hc';have HA:=Ah ha;have HB:=Ah hb;have HE:Hid (¬(k<n ∨ k<m ∨ 0<x)->N+M<2^k):=Ah (fun h=>sum_lt (by rw[<-HN.out];omega) (by rw[<-HM.out];omega) (by rw[hcy.out];omega));have HG:=Ah hgo;clear hs hc' ha hb hgo hstep;have hin:Bj wr p n c N:=hA.below hbw;have hin2:Bj wr q m d M:=hB.below hbw;have HSI:Hid (bit (N+M) k=(((a:Int)+b+x)%2==1)):=Ah (by
   rw[HS.out,Bool.eq_iff_iff];simp only[decide_eq_true_eq,beq_iff_eq];omega)
  by_cases h1:k<n
  .have hkl:k<=n+m:=HG.out (.inl h1)
   go_wp2_with fail
   refine(Ft wr p n c N k hin (by omega)).mono ?_;rintro e w1 ⟨rfl,rfl⟩;rw[HA.out]
   go_wp2_with fail
   refine(Ft wr q m d M k hin2 (by omega)).mono ?_;rintro e w1 ⟨rfl,rfl⟩;rw[HB.out]
   go_wp2_with (at_builtin;refine wpList_append_own _ rfl _ _ 28 rfl w.heap.size 4 i0 (.bool false) 1 1 Tryz.underlying28 hi hz0 hz1 hz2 rfl (by decide) _ _ _ rfl (ho.alloc _) ⟨wr.heap.size,0,none⟩ 1 1 [.bool (((a:Int)+b+x)%2==1)] rfl rfl ?c1 ?c2 ?c3 ?c4 ?c5 ?_)
   case c1=>
    intro jj u hj
    match jj,hj with
    | 0,hj=>simp at hj;subst hj;simp[Addr.add]
   case c2=>intro u hu;simp at hu;subst hu;rfl
   case c3=>unfold maxLen;omega
   case c4=>omega
   case c5=>have:=hbw.size;simp;omega
   intro v' w1 ho' hg _;have hbw1:Below w.heap.size w w1:=(hbw.alloc hbw.size _).grown hg (by have:=hbw.size;simp;omega) (fun j hj=>(ho.lt j hj).1);have ho1:w1.ownsRow w.heap.size 4 1 v' (k+1) ((Ce (N+M) (k+1)).map Value.bool):=by
    rw[Fh,List.map_append,HSI.out];exact ho'
   clear ho' hg ho;go_wp2;go_roundw
   case rel=>exact⟨k+1,(a+b+x)/2,by omega,by go_num,by go_num,by omega,HC,ho1,hbw1⟩
   case measure=>simp[intOf];omega
  by_cases h2:k<m
  .have hkl:k<=n+m:=HG.out (.inr (.inl h2))
   go_wp2_with fail
   refine(Ft wr p n c N k hin (by omega)).mono ?_;rintro e w1 ⟨rfl,rfl⟩;rw[HA.out]
   go_wp2_with fail
   refine(Ft wr q m d M k hin2 (by omega)).mono ?_;rintro e w1 ⟨rfl,rfl⟩;rw[HB.out]
   go_wp2_with (at_builtin;refine wpList_append_own _ rfl _ _ 28 rfl w.heap.size 4 i0 (.bool false) 1 1 Tryz.underlying28 hi hz0 hz1 hz2 rfl (by decide) _ _ _ rfl (ho.alloc _) ⟨wr.heap.size,0,none⟩ 1 1 [.bool (((a:Int)+b+x)%2==1)] rfl rfl ?c1 ?c2 ?c3 ?c4 ?c5 ?_)
   case c1=>
    intro jj u hj
    match jj,hj with
    | 0,hj=>simp at hj;subst hj;simp[Addr.add]
   case c2=>intro u hu;simp at hu;subst hu;rfl
   case c3=>unfold maxLen;omega
   case c4=>omega
   case c5=>have:=hbw.size;simp;omega
   intro v' w1 ho' hg _;have hbw1:Below w.heap.size w w1:=(hbw.alloc hbw.size _).grown hg (by have:=hbw.size;simp;omega) (fun j hj=>(ho.lt j hj).1);have ho1:w1.ownsRow w.heap.size 4 1 v' (k+1) ((Ce (N+M) (k+1)).map Value.bool):=by
    rw[Fh,List.map_append,HSI.out];exact ho'
   clear ho' hg ho;go_wp2;go_roundw
   case rel=>exact⟨k+1,(a+b+x)/2,by omega,by go_num,by go_num,by omega,HC,ho1,hbw1⟩
   case measure=>simp[intOf];omega
  by_cases h3:0<x
  .have hkl:k<=n+m:=HG.out (.inr (.inr h3))
   go_wp2_with fail
   refine(Ft wr p n c N k hin (by omega)).mono ?_;rintro e w1 ⟨rfl,rfl⟩;rw[HA.out]
   go_wp2_with fail
   refine(Ft wr q m d M k hin2 (by omega)).mono ?_;rintro e w1 ⟨rfl,rfl⟩;rw[HB.out]
   go_wp2_with (at_builtin;refine wpList_append_own _ rfl _ _ 28 rfl w.heap.size 4 i0 (.bool false) 1 1 Tryz.underlying28 hi hz0 hz1 hz2 rfl (by decide) _ _ _ rfl (ho.alloc _) ⟨wr.heap.size,0,none⟩ 1 1 [.bool (((a:Int)+b+x)%2==1)] rfl rfl ?c1 ?c2 ?c3 ?c4 ?c5 ?_)
   case c1=>
    intro jj u hj
    match jj,hj with
    | 0,hj=>simp at hj;subst hj;simp[Addr.add]
   case c2=>intro u hu;simp at hu;subst hu;rfl
   case c3=>unfold maxLen;omega
   case c4=>omega
   case c5=>have:=hbw.size;simp;omega
   intro v' w1 ho' hg _;have hbw1:Below w.heap.size w w1:=(hbw.alloc hbw.size _).grown hg (by have:=hbw.size;simp;omega) (fun j hj=>(ho.lt j hj).1);have ho1:w1.ownsRow w.heap.size 4 1 v' (k+1) ((Ce (N+M) (k+1)).map Value.bool):=by
    rw[Fh,List.map_append,HSI.out];exact ho'
   clear ho' hg ho;go_wp2;go_roundw
   case rel=>exact⟨k+1,(a+b+x)/2,by omega,by go_num,by go_num,by omega,HC,ho1,hbw1⟩
   case measure=>simp[intOf];omega
  have hlt:=Ah (HE.out (by omega));obtain⟨q,d,rfl,hrow,hnew⟩:=En.of_owns ho
  go_wp2_with fail
  refine(Gg wr q k d (N+M) hrow hlt.out).mono ?_;rintro e w1 ⟨l,rfl,hm,rfl⟩;go_wp2;go_ret;exact⟨q,l,d,rfl,hm,hbw,hnew⟩
def Iu (N M k:Nat):Nat:=if N%2^k<M%2^k then 1 else 0
theorem bK (N M:Nat):Iu N M 0=0:=by simp[Iu,Nat.mod_one]
theorem bL (N M k:Nat):Iu N M (k+1)=if (bit N k).toNat<(bit M k).toNat+Iu N M k then 1 else 0:=by
 have hp:0<2^k:=Nat.pow_pos (by omega);have h1:=Nat.mod_lt N hp;have h2:=Nat.mod_lt M hp;unfold Iu;rw[Lu,Lu];generalize N%2^k=n at *;generalize M%2^k=m at *;generalize 2^k=P at *
 by_cases hlt:n<m
 .rw[if_pos hlt];cases bit N k<;>cases bit M k<;>simp only[Bool.toNat_true,Bool.toNat_false,Nat.mul_zero,Nat.mul_one]
  .rw[if_pos (by omega),if_pos (by omega)]
  .rw[if_pos (by omega),if_pos (by omega)]
  .rw[if_neg (by omega),if_neg (by omega)]
  .rw[if_pos (by omega),if_pos (by omega)]
 .rw[if_neg hlt];cases bit N k<;>cases bit M k<;>simp only[Bool.toNat_true,Bool.toNat_false,Nat.mul_zero,Nat.mul_one]
  .rw[if_neg (by omega),if_neg (by omega)]
  .rw[if_pos (by omega),if_pos (by omega)]
  .rw[if_neg (by omega),if_neg (by omega)]
  .rw[if_neg (by omega),if_neg (by omega)]
theorem qA {N M k:Nat}(h:M<=N):(N-M)/2^k+M/2^k+Iu N M k=N/2^k:=by
 have hp:0<2^k:=Nat.pow_pos (by omega);have h1:=Nat.mod_lt N hp;have h2:=Nat.mod_lt M hp;have e1:=Nat.div_add_mod N (2^k);have e2:=Nat.div_add_mod M (2^k);unfold Iu;generalize N/2^k=A at *;generalize M/2^k=B at *;generalize N%2^k=n at *;generalize M%2^k=m at *;generalize 2^k=P at *;split
 .rename_i hlt
  have hAB:B+1<=A:=by
   rcases Nat.lt_or_ge B A with h3|h3
   .exact h3
   .have:=Nat.mul_le_mul_left P h3;omega
  obtain⟨E,rfl⟩:∃E,A=B+1+E:=⟨A-(B+1),by omega⟩
  have e3:N-M=P*E+(n+P-m):=by
   rw[Nat.mul_add,Nat.mul_add,Nat.mul_one]at e1
   omega
  rw[e3,Nat.mul_add_div hp,Nat.div_eq_of_lt (by omega)];omega
 .rename_i hlt
  have hAB:B<=A:=by
   rcases Nat.lt_or_ge A B with h3|h3
   .have:=Nat.mul_le_mul_left P (Nat.succ_le_of_lt h3);rw[Nat.succ_eq_add_one,Nat.mul_add,Nat.mul_one]at this
    omega
   .exact h3
  obtain⟨E,rfl⟩:∃E,A=B+E:=⟨A-B,by omega⟩
  have e3:N-M=P*E+(n-m):=by
   rw[Nat.mul_add]at e1
   omega
  rw[e3,Nat.mul_add_div hp,Nat.div_eq_of_lt (by omega)];omega
theorem qE {N M k:Nat}(h:M<=N):bit (N-M) k=decide (((bit N k).toNat+(bit M k).toNat+Iu N M k)%2=1):=by
 have e:=qA (k:=k) h;have e1:=Hm N k;have e2:=Hm M k;show decide ((N-M)/2^k%2=1)=_;rw[decide_eq_decide];omega
theorem Ta (w:World)(p:Option Addr)(n c N:Nat)(q:Option Addr)(m d M:Nat)(hA:Bj w p n c N)(hB:Bj w q m d M)(hn:n<=1000000)(hle:M<=N) :
  Calls Tryz.prog 176 #[.slice p n c,.slice q m d] w (Ip (N-M) w):=by
 obtain⟨i0,hi,hz0,hz1,hz2⟩:=info_parts Tryz.info_bool;have hl:n=Ap N:=by have:=hA.len;rwa [Be]at this
 have HN:=Ah hl;clear hl;have hown:=World.ownsRow_made w (base:=w.heap.size) (e := 4) (size:=1) #[] 0 (Av _) (by simp[maxLen]) (by simp);go_enter Tryz.func176,Tryz.ntmps176;go_wp2
 go_loopw [5,6,7,8] (fun v cy i _ wr=>∃k x:Nat,k<=n/\i=.int .i64 k/\cy=.int .i64 x/\x<=1/\Hid (Iu N M k=x)/\wr.ownsRow w.heap.size 4 1 v k ((Ce (N-M) k).map Value.bool)/\Below w.heap.size w wr) (fun _ _ i _ _=>n-(intOf i).toNat)
 case atStart=>
  refine⟨0,0,by omega,rfl,rfl,by omega,Ah (bK _ _),?_,(Bg _ _).alloc (Av _) _⟩;simpa [Ce]using hown
 case round=>
  obtain⟨k,x,hk,rfl,rfl,hx1,hcy,ho,hbw⟩:=hrel
  by_cases h1:k<n
  .obtain⟨a,ha⟩:∃a,(bit N k).toNat=a:=⟨_,rfl⟩
   obtain⟨b,hb⟩:∃b,(bit M k).toNat=b:=⟨_,rfl⟩
   have ha1:a<=1:=by rw[<-ha];exact Bool.toNat_le _
   have hb1:b<=1:=by rw[<-hb];exact Bool.toNat_le _
   have hs:=qE (k:=k) hle;have hc':=bL N M k;rw[ha,hb,hcy.out]at hs hc'
   have HS:=Ah hs;have HA:=Ah ha;have HB:=Ah hb;have HC':=Ah hc';clear hs ha hb hc';have hin:Bj wr p n c N:=hA.below hbw;have hin2:Bj wr q m d M:=hB.below hbw
   by_cases hlt:a<b+x
   .have HC:Hid (Iu N M (k+1)=1):=Ah (by rw[HC'.out,if_pos hlt]);have HSI:Hid (bit (N-M) k=(((a:Int)-b-x+2)==1)):=Ah (by
     rw[HS.out,Bool.eq_iff_iff];simp only[decide_eq_true_eq,beq_iff_eq];omega)
    go_wp2_with fail
    refine(Ft wr p n c N k hin (by omega)).mono ?_;rintro e w1 ⟨rfl,rfl⟩;rw[HA.out]
    go_wp2_with fail
    refine(Ft wr q m d M k hin2 (by omega)).mono ?_;rintro e w1 ⟨rfl,rfl⟩;rw[HB.out]
    go_wp2_with (at_builtin;refine wpList_append_own _ rfl _ _ 28 rfl w.heap.size 4 i0 (.bool false) 1 1 Tryz.underlying28 hi hz0 hz1 hz2 rfl (by decide) _ _ _ rfl (ho.alloc _) ⟨wr.heap.size,0,none⟩ 1 1 [.bool (((a:Int)-b-x+2)==1)] rfl rfl ?c1 ?c2 ?c3 ?c4 ?c5 ?_)
    case c1=>
     intro jj u hj
     match jj,hj with
     | 0,hj=>simp at hj;subst hj;simp[Addr.add]
    case c2=>intro u hu;simp at hu;subst hu;rfl
    case c3=>unfold maxLen;omega
    case c4=>omega
    case c5=>have:=hbw.size;simp;omega
    intro v' w1 ho' hg _;have hbw1:Below w.heap.size w w1:=(hbw.alloc hbw.size _).grown hg (by have:=hbw.size;simp;omega) (fun j hj=>(ho.lt j hj).1);have ho1:w1.ownsRow w.heap.size 4 1 v' (k+1) ((Ce (N-M) (k+1)).map Value.bool):=by
     rw[Fh,List.map_append,HSI.out];exact ho'
    clear ho' hg ho;go_wp2;go_roundw
    case rel=>exact⟨k+1,1,by omega,rfl,rfl,by omega,HC,ho1,hbw1⟩
    case measure=>simp[intOf];omega
   .have HC:Hid (Iu N M (k+1)=0):=Ah (by rw[HC'.out,if_neg hlt]);have HSI:Hid (bit (N-M) k=(((a:Int)-b-x)==1)):=Ah (by
     rw[HS.out,Bool.eq_iff_iff];simp only[decide_eq_true_eq,beq_iff_eq];omega)
    go_wp2_with fail
    refine(Ft wr p n c N k hin (by omega)).mono ?_;rintro e w1 ⟨rfl,rfl⟩;rw[HA.out]
    go_wp2_with fail
    refine(Ft wr q m d M k hin2 (by omega)).mono ?_;rintro e w1 ⟨rfl,rfl⟩;rw[HB.out]
    go_wp2_with (at_builtin;refine wpList_append_own _ rfl _ _ 28 rfl w.heap.size 4 i0 (.bool false) 1 1 Tryz.underlying28 hi hz0 hz1 hz2 rfl (by decide) _ _ _ rfl (ho.alloc _) ⟨wr.heap.size,0,none⟩ 1 1 [.bool (((a:Int)-b-x)==1)] rfl rfl ?c1 ?c2 ?c3 ?c4 ?c5 ?_)
    case c1=>
     intro jj u hj
     match jj,hj with
     | 0,hj=>simp at hj;subst hj;simp[Addr.add]
    case c2=>intro u hu;simp at hu;subst hu;rfl
    case c3=>unfold maxLen;omega
    case c4=>omega
    case c5=>have:=hbw.size;simp;omega
    intro v' w1 ho' hg _;have hbw1:Below w.heap.size w w1:=(hbw.alloc hbw.size _).grown hg (by have:=hbw.size;simp;omega) (fun j hj=>(ho.lt j hj).1);have ho1:w1.ownsRow w.heap.size 4 1 v' (k+1) ((Ce (N-M) (k+1)).map Value.bool):=by
     rw[Fh,List.map_append,HSI.out];exact ho'
    clear ho' hg ho;go_wp2;go_roundw
    case rel=>exact⟨k+1,0,by omega,rfl,rfl,by omega,HC,ho1,hbw1⟩
    case measure=>simp[intOf];omega
  .have HK:Hid (k=n):=Ah (by omega);have hlt:Hid (N-M<2^k):=Ah (by
    have:=(Bi N k).1 (by rw[<-HN.out];exact Nat.le_of_eq HK.out.symm);omega)
   obtain⟨q,d,rfl,hrow,hnew⟩:=En.of_owns ho
   go_wp2_with fail
   refine(Gg wr q k d (N-M) hrow hlt.out).mono ?_;rintro e w1 ⟨l,rfl,hm,rfl⟩;go_wp2;go_ret;exact⟨q,l,d,rfl,hm,hbw,hnew⟩
end Go.Proofs.YthgoeiegdhphjaaGreatDoor
