/- The document's number as bytes. -/
import Derived.Lib.Tables
import Derived.Lib.BitFns
import Derived.Test.YtnbmfaihlefgfaaGreatDoorNatN
set_option maxRecDepth 1000000
set_option maxHeartbeats 16000000
set_option linter.all false
namespace Go.Proofs.YtnbmfaihlefgfaaGreatDoor
open Go Go.RowKit Go.Proofs.YtnbmfaihlefgfaaGreatDoor.Flow
theorem Wk:(⟨((([0,1,2,2,3,3,3,3,4,4,4,4,4,4,4,4,5,5,5,5,5,5,5,5,5,5,5,5,5,5,5,5,6,6,6,6,6,6,6,6,6,6,6,6,6,6,6,6,6,6,6,6,6,6,6,6,6,6,6,6,6,6,6,6]:List UInt8).append [7,7,7,7,7,7,7,7,7,7,7,7,7,7,7,7,7,7,7,7,7,7,7,7,7,7,7,7,7,7,7,7,7,7,7,7,7,7,7,7,7,7,7,7,7,7,7,7,7,7,7,7,7,7,7,7,7,7,7,7,7,7,7,7]).append (([8,8,8,8,8,8,8,8,8,8,8,8,8,8,8,8,8,8,8,8,8,8,8,8,8,8,8,8,8,8,8,8,8,8,8,8,8,8,8,8,8,8,8,8,8,8,8,8,8,8,8,8,8,8,8,8,8,8,8,8,8,8,8,8]:List UInt8).append [8,8,8,8,8,8,8,8,8,8,8,8,8,8,8,8,8,8,8,8,8,8,8,8,8,8,8,8,8,8,8,8,8,8,8,8,8,8,8,8,8,8,8,8,8,8,8,8,8,8,8,8,8,8,8,8,8,8,8,8,8,8,8,8])).toArray⟩:ByteArray)=Lib.len8tab:=by kernel_rfl
theorem cK:∀n:Fin 256,Lib.len8 (n.val:Int)=(Aj n.val:Int):=by decide +kernel
theorem Pi (y:Int)(h0:0<=y)(h1:y<=255)(h:y.toNat<Lib.len8tab.size):((Lib.len8tab[y.toNat]'h).toNat:Int)=(Aj y.toNat:Nat):=by
 have e:=cK ⟨y.toNat,by omega⟩;simp only[Int.toNat_of_nonneg h0]at e;rw[<-e];unfold Lib.len8;rw[getElem?_pos Lib.len8tab y.toNat h];rfl
theorem Nb (k:Nat)(m n:Nat)(hk:k<=24)(hm:Aj m<=64)(e:Aj n=k+Aj m):wrap64 ((k:Int)+wrap64 (Aj m:Nat))=(Aj n:Nat):=by
 rw[e,IntWalk.wrap64_in (Aj m:Nat) ⟨by omega,by omega⟩,IntWalk.wrap64_in _ ⟨by omega,by omega⟩];omega
theorem Yd (m:Nat)(hm:Aj m<=64):wrap64 (wrap64 (Aj m:Nat))=(Aj m:Nat):=by
 rw[IntWalk.wrap64_in (Aj m:Nat) ⟨by omega,by omega⟩,IntWalk.wrap64_in _ ⟨by omega,by omega⟩]
theorem cL (x:Int)(w:World)(h0:0<=x)(hx:x<=4294967295) :
  Calls Tryz.prog 227 #[.int .u32 x] w fun e w'=>e=.returned (.int .i64 (Aj x.toNat:Nat))/\w=w':=by
 have hs:Lib.len8tab.size=256:=Lib.len8tab_size;go_enter Tryz.func227,Tryz.ntmps227;rw[Wk];go_wp2
 all_goals first
  | (go_ret;refine⟨congrArg Ending.returned (congrArg (Value.int IntKind.i64) ?_),rfl⟩)
  | (exfalso;omega)
 all_goals first
  | (rw[Pi (x/65536/256) (by omega) (by omega)];exact Nb 24 _ _ (by omega) (Kp (by omega)) (by rw[show (x/65536/256).toNat=x.toNat/2^24 by omega];exact Gu _ _ (by omega)))
  | (rw[Pi (x/65536) (by omega) (by omega)];exact Nb 16 _ _ (by omega) (Kp (by omega)) (by rw[show (x/65536).toNat=x.toNat/2^16 by omega];exact Gu _ _ (by omega)))
  | (rw[Pi (x/256) (by omega) (by omega)];exact Nb 8 _ _ (by omega) (Kp (by omega)) (by rw[show (x/256).toNat=x.toNat/2^8 by omega];exact Gu _ _ (by omega)))
  | (rw[Pi x (by omega) (by omega)];exact Yd _ (Kp (by omega)))
theorem On (x:Nat)(w:World)(hx:x<4294967296) :
  Calls Tryz.prog 227 #[.int .u32 x] w fun e w'=>e=.returned (.int .i64 (Aj x:Nat))/\w=w':=by
 have:=cL x w (by omega) (by omega);simpa using this
theorem Zz {ws:List Nat}{x:Nat}(hw:Words (ws++[x]))(hx:x≠0):Aj (val (ws++[x]))=32*ws.length+Aj x:=by
 rw[Df];have hb:Am ws.length=2^(32*ws.length):=by unfold Am;rw[show (4294967296:Nat)=2^32 from rfl,<-Nat.pow_mul]
 have h1:val ws<Am ws.length:=Words.lt fun y hy=>hw y (by simp[hy])
 have hd:(val ws+Am ws.length*x)/2^(32*ws.length)=x:=by
  rw[<-hb,Nat.add_mul_div_left _ _ (Fm _),Nat.div_eq_of_lt h1,Nat.zero_add]
 have:=Gu (val ws+Am ws.length*x) (32*ws.length) (by rw[hd];omega);rw[hd]at this
 exact this
theorem Eg (w:World)(p:Option Addr)(n c N:Nat)(h:Ah w p n c N)(hn:n<1000000) :
  Calls Tryz.prog 199 #[.agg #[.slice p n c]] w fun e w'=>e=.returned (.int .i64 (Aj N:Nat))/\Below w.heap.size w w':=by
 have hbx:=Cu.mk1 w (.slice p n c) 36
 by_cases h0:n=0
 .have hN:N=0:=h.zero.1 h0;subst hN;have hd:decide (n=0)=true:=by simpa using h0
  clear h0;go_enter Tryz.func199,Tryz.ntmps199
  go_wp2_with fail
  refine(Dm _ p n c).mono ?_;rintro e w1 ⟨rfl,hb1⟩;go_wp2;go_ret;exact⟨rfl,(hbx.later hb1).bel⟩
 .obtain⟨m,rfl⟩:∃m,n=m+1:=⟨n-1,by omega⟩
  obtain⟨ws,h1,h2,h3,h4⟩:=h.ex;have hl:=h1.len;obtain⟨xs,x,rfl⟩:∃xs x,ws=xs++[x]:=by
   rcases List.eq_nil_or_concat ws with rfl|⟨xs,x,h⟩
   .simp at hl
   .exact⟨xs,x,by simpa using h⟩
  have hxm:xs.length=m:=by simp at hl;omega
  have hx0:x≠0:=by simpa using h3
  have hx1:x<4294967296:=h2 x (by simp);have hbl:=Zz h2 hx0;rw[h4,hxm]at hbl
  have HBL:=Ad hbl;have hxb:Aj x<=32:=by rw[Ba];exact hx1
  obtain⟨b,off,rfl,hb,hc⟩:=h1.pos (by omega);have hci:∀w',Below w.heap.size w w'->w'.cell? ⟨b,off+m,none⟩=some (.int .u32 (x:Nat)):=fun w' hb'=>by
   rw[(Bv hb').1 _ _ hb];exact hc m x (by rw[<-hxm];simp)
  have hd:decide (m+1=0)=false:=by simp
  clear hc hl h4 hbl hxm;go_enter Tryz.func199,Tryz.ntmps199
  go_wp2_with fail
  refine(Dm _ _ (m+1) c).mono ?_;rintro e w1 ⟨rfl,hb1⟩;have hbx1:=hbx.later hb1;have c0:=hbx1.c0;have hcx:=hci w1 hbx1.bel;clear hci
  go_wp2_with fail
  refine(On x _ hx1).mono ?_;rintro e w2 ⟨rfl,rfl⟩;go_wp2;go_ret;refine⟨?_,hbx1.bel⟩;rw[HBL.out];exact congrArg (fun z=>Ending.returned (.int .i64 z)) (by omega)
def Dl (N n:Nat):List Nat:=(List.range n).map fun i=>N/B8 i%256
def Dg (N n:Nat):List Nat:=(Dl N n).reverse
def Au (N:Nat):Nat:=(Aj N+7)/8
theorem Cc (N n:Nat):(Dl N n).length=n:=by simp[Dl]
theorem Nl (N n:Nat):Dl N (n+1)=Dl N n++[N/B8 n%256]:=by simp[Dl,List.range_succ]
theorem Lk (N n:Nat):Bb (Dl N n):=by
 intro x hx;simp only[Dl,List.mem_map]at hx;obtain⟨j,_,rfl⟩:=hx;exact Nat.mod_lt _ (by omega)
theorem Xn (N:Nat):N<B8 (Au N):=by
 rw[Hp];refine(Ba N _).1 ?_;unfold Au;omega
theorem Mq {N n:Nat}:Au N<=n ↔ N<B8 n:=by
 rw[Hp,<-Ba];unfold Au;omega
theorem fM {N k n:Nat}(h:N<B8 k)(hk:k<=n):Dl N k++List.replicate (n-k) 0=Dl N n:=by
 obtain⟨d,rfl⟩:∃d,n=k+d:=⟨n-k,by omega⟩
 rw[Nat.add_sub_cancel_left];clear hk
 induction d with
 | zero=>simp
 | succ d ih=>
  rw[List.replicate_succ',<-List.append_assoc,ih,<-Nat.add_assoc,Nl]
  congr 2
  have:B8 k<=B8 (k+d):=Hh (by omega);rw[Nat.div_eq_of_lt (by omega)]
theorem Uk (N:Nat):∀n,le (Dl N n)=N%B8 n
 | 0=>by simp[Dl,le,Hg,Nat.mod_one]
 | n+1=>by rw[Nl,aP,Cc,Uk N n,Fl,Nat.mul_comm 256,Nat.mod_mul]
theorem Oj (l:List Nat)(k x:Nat)(hk:k<l.length):l.reverse.set (l.length-1-k) x=(l.set k x).reverse:=by
 apply List.ext_getElem (by simp);intro i h1 h2;simp only[List.length_set,List.length_reverse]at h1;rw[List.getElem_set,List.getElem_reverse,List.getElem_reverse,List.getElem_set];simp only[List.length_set]
 by_cases h:l.length-1-k=i
 .rw[if_pos h,if_pos (by omega)]
 .rw[if_neg h,if_neg (by omega)]
theorem Uz {N q r:Nat}(hr:r<4):N/Am q%4294967296/B8 r%256=N/B8 (4*q+r)%256:=by
 have e:(4294967296:Nat)=B8 r*(256*B8 (3-r)):=by
  rw[<-Fl,<-aH,show r+(3-r+1)=4 by omega];rfl
 rw[e,Nat.mod_mul_right_div_self,Nat.mod_mul_right_mod,Nat.div_div_eq_div_mul,aH,Kr]
theorem Ig (w:World)(p:Option Addr)(n c N:Nat)(h:Ah w p n c N)(hn:n<1000000)(hN:Aj N<=1000000000) :
  Calls Tryz.prog 150 #[.agg #[.slice p n c]] w fun e w'=>e=.returned (.int .i64 (Au N:Nat))/\Below w.heap.size w w':=by
 have hbx:=Cu.mk1 w (.slice p n c) 36;obtain⟨k,hk⟩:∃k,Aj N=k:=⟨_,rfl⟩
 have HK:Hid (Au N=(k+7)/8):=by rw[<-hk];rfl
 go_enter Tryz.func150,Tryz.ntmps150
 go_wp2_with fail
 refine(Eg _ p n c N (h.below hbx.bel) hn).mono ?_;rintro e w1 ⟨rfl,hb1⟩;rw[hk]at hN
 simp only[hk];clear hk;go_wp2;go_ret;refine⟨?_,(hbx.later hb1).bel⟩;rw[HK.out];exact congrArg (fun z=>Ending.returned (.int .i64 z)) (by omega)
def Lx (N:Nat)(size:Int)(w:World)(e:Ending)(w':World):Prop :=
 ∃q n d k,e=.returned (.tuple #[.slice q n d,.int .i64 k])/\Row w' .u8 q n d (if size<0 then [] else if size<Au N then [] else Dg N size.toNat) /\
  (k=if size<0 then 1 else if size<Au N then 2 else 0)/\Below w.heap.size w w'/\Dv w.heap.size q
theorem dI (w:World)(p:Option Addr)(n c N s:Nat)(h:Ah w p n c N)(hn:n<1000000)(hN:Aj N<=1000000000)(hs:(s:Int)<=1000000)(h2:¬(s:Int)<Au N) :
  Calls Tryz.prog 149 #[.agg #[.slice p n c],.int .i64 s] w fun e w'=>∃g,e=.returned (.tuple #[.slice (some ⟨g,0,none⟩) s s,.int .i64 0])/\Bl w' g 5 .u8 (Dg N s)/\Below w.heap.size w w'/\w.heap.size<=g:=by
 have hbx:=Cu.mk1 w (.slice p n c) 36;have h1:¬(s:Int)<0:=by omega
 obtain⟨m,hm⟩:∃m,Au N=m:=⟨_,rfl⟩
 have HM:Hid (∀k,m<=k ↔ N<B8 k):=fun k=>by rw[<-hm];exact Mq
 rw[hm]at h2
 obtain⟨ws,r1,r2,r3,r4⟩:=h.ex;have hmk:=Uh s (by omega);have hms:m<=s:=by omega
 have HR4:=Ad r4;go_enter Tryz.func149,Tryz.ntmps149
 go_wp2_with fail
 refine(Ig _ p n c N (h.below hbx.bel) hn hN).mono ?_;rintro e w1 ⟨rfl,hb1⟩;simp only[hm];clear hm r4;have hbx1:=hbx.later hb1;have hz1:w.heap.size<w1.heap.size:=hbx1.size;go_wp2
 go_loopw [24] (fun i wr=>∃k:Nat,k<=m/\i=.int .i64 k/\Cu w wr (.slice p n c)/\w1.heap.size<wr.heap.size/\Below w1.heap.size w1 wr/\Bl wr w1.heap.size 5 .u8 ((Dl N k++List.replicate (s-k) 0).reverse)) (fun i _=>m-(intOf i).toNat)
 case atStart=>
  refine⟨0,by omega,rfl,hbx1.alloc _,by simp,(Be _ _).alloc (Av _) _,?_⟩;have:=Bl.zeros w1 5 .u8 s;simpa [Dl]using this
 case round=>
  obtain⟨k,hk,rfl,hbr,hsz,hbw,hblk⟩:=hrel;have c0:=hbr.c0
  by_cases hkm:k<m
  .have hkn:k/4<n:=by
    rcases Nat.lt_or_ge (k/4) n with h3|h3
    .exact h3
    .exfalso;have h4:=r2.lt;rw[<-r1.len]at h4
     have h5:N<B8 k:=by
      have:Am n<=B8 k:=by rw[<-Kr];exact Hh (by omega)
      have:=HR4.out;omega
     have h6:=(HM.out k).2 h5;omega
   obtain⟨b,off,rfl,hb,hc⟩:=r1.pos (by omega);obtain⟨x,hx⟩:∃x,ws.getD (k/4) 0=x:=⟨_,rfl⟩
   have hci:wr.cell? ⟨b,off+k/4,none⟩=some (.int .u32 (x:Nat)):=by
    rw[(Bv hbr.bel).1 _ _ hb];exact hc _ x (by rw[<-hx,De];simp[show k/4<ws.length by have:=r1.len;omega])
   have hx1:x<4294967296:=by rw[<-hx];exact r2.get _
   have hlen:(Dl N k++List.replicate (s-k) 0).length=s:=by rw[List.length_append,Cc,List.length_replicate];omega
   have hcl:wr.cell? ⟨w1.heap.size,s-1-k,none⟩=some (.int .u8 (((Dl N k++List.replicate (s-k) 0).reverse.getD (s-1-k) 0:Nat))):=hblk.cell (by
    rw[De];have:s-1-k<(Dl N k++List.replicate (s-k) 0).reverse.length:=by rw[List.length_reverse,hlen];omega
    simp only[List.getElem?_eq_getElem this,Option.getD_some])
   have hfr:=hblk.free (s-1-k);have hbyte:x/2^(k%4*8)%256=N/B8 k%256:=by
    have hd:=digit ws r2 (k/4);rw[HR4.out,hx]at hd
    rw[<-hd,Nat.mul_comm (k%4) 8,<-Hp,Uz (Nat.mod_lt _ (by omega))]
    congr 3;omega
   have hset:Hid (Bl (wr.setCell ⟨w1.heap.size,s-1-k,none⟩ (.int .u8 ((N/B8 k%256:Nat)))) w1.heap.size 5 .u8 ((Dl N (k+1)++List.replicate (s-(k+1)) 0).reverse)):=by
    have h5:=hblk.set (s-1-k) (N/B8 k%256);have h6:=Oj (Dl N k++List.replicate (s-k) 0) k (N/B8 k%256) (by rw[hlen];omega);rw[hlen]at h6
    rw[h6]at h5
    have h7:s-k=(s-(k+1))+1:=by omega
    have h8:(Dl N k++List.replicate (s-k) 0).set k (N/B8 k%256)=Dl N (k+1)++List.replicate (s-(k+1)) 0:=by
     rw[h7,Nl];have:=Kf (Dl N k) (s-(k+1)) (N/B8 k%256);rw[Cc]at this
     exact this
    rw[h8]at h5
    exact h5
   have HX:=Ad hx;have HB:=Ad hbyte;have hk3:k%4<4:=Nat.mod_lt _ (by omega);clear hc hx hbyte hlen;go_wp2;go_roundw
   case rel=>
    have e:((x:Int)/2^(k%4*8)%256)=((N/B8 k%256:Nat):Int):=by
     rw[<-HB.out];simp
    rw[e];exact⟨k+1,by omega,by go_num,hbr.below (B:=w.heap.size+1) ((Be _ _).setCell (by simp;omega) _) (Av _),by simpa using hsz,hbw.setCell (by simp) _,hset.out⟩
   case measure=>simp[intOf];omega
  .have hkm':m<=k:=by omega
   rw[fM ((HM.out k).1 hkm') (by omega)]at hblk
   have HRow:Hid (Bl wr w1.heap.size 5 .u8 (Dg N s)):=hblk;have hbel:=hbr.bel;go_wp2
   go_ret2
   exact⟨_,rfl,HRow.out,hbel,Nat.le_of_lt hz1⟩
theorem Xm (w:World)(p:Option Addr)(n c N:Nat)(size:Int)(h:Ah w p n c N)(hn:n<1000000)(hN:Aj N<=1000000000)(hs:size<=1000000)(hs0:-9223372036854775808<=size) :
  Calls Tryz.prog 149 #[.agg #[.slice p n c],.int .i64 size] w (Lx N size w):=by
 have hbx:=Cu.mk1 w (.slice p n c) 36
 by_cases h1:size<0
 .have HG:Hid (∀w',Below w.heap.size w w'->Lx N size w (.returned (.tuple #[.slice none 0 0,.int .i64 1])) w'):=fun w' hb=>⟨none,0,0,1,rfl,by rw[if_pos h1];exact Row.nil _ _,by rw[if_pos h1],hb,Dv.none _⟩
  go_enter Tryz.func149,Tryz.ntmps149
  go_wp2_with fail
  refine(Ig _ p n c N (h.below hbx.bel) hn hN).mono ?_;rintro e w1 ⟨rfl,hb1⟩;go_wp2
  go_ret2
  exact HG.out _ (hbx.later hb1).bel
 .by_cases h2:size<Au N
  .have HG:Hid (∀w',Below w.heap.size w w'->Lx N size w (.returned (.tuple #[.slice none 0 0,.int .i64 2])) w'):=fun w' hb=>⟨none,0,0,2,rfl,by rw[if_neg h1,if_pos h2];exact Row.nil _ _,by rw[if_neg h1,if_pos h2],hb,Dv.none _⟩
   go_enter Tryz.func149,Tryz.ntmps149
   go_wp2_with fail
   refine(Ig _ p n c N (h.below hbx.bel) hn hN).mono ?_;rintro e w1 ⟨rfl,hb1⟩;go_wp2
   go_ret2
   exact HG.out _ (hbx.later hb1).bel
  .obtain⟨s,rfl⟩:=Int.eq_ofNat_of_zero_le (show 0<=size by omega);refine(dI w p n c N s h hn hN hs h2).mono ?_;rintro e w' ⟨g,rfl,hb,hbel,hg⟩;have hl:(Dg N s).length=s:=by rw[Dg,List.length_reverse,Cc]
   exact⟨some ⟨g,0,none⟩,s,s,0,rfl,by rw[if_neg h1,if_neg h2];exact hb.row hl.symm (Av _) (by omega),by rw[if_neg h1,if_neg h2],hbel,fun q hq=>by cases hq;exact hg⟩
def bit (N i:Nat):Bool:=decide (N/2^i%2=1)
def bitsOf (N:Nat):List Bool:=(List.range (Aj N)).map (bit N)
def Br (N k:Nat):List Bool:=(List.range k).map (bit N)
theorem Dp (N k:Nat):Br N (k+1)=Br N k++[bit N k]:=by simp[Br,List.range_succ]
theorem Lb (N k:Nat):(Br N k).length=k:=by simp[Br]
theorem Ax (N:Nat):(bitsOf N).length=Aj N:=by simp[bitsOf]
theorem Ck {N i:Nat}(h:i<Aj N):(bitsOf N)[i]? = some (bit N i):=by simp[bitsOf,h]
theorem aU {N k:Nat}(h:0<N/2^k):k<Aj N:=by
 rcases Nat.lt_or_ge k (Aj N) with h1|h1
 .exact h1
 .rw[Nat.div_eq_of_lt ((Ba N k).1 h1)]at h;omega
theorem jJ {N k:Nat}(h:N/2^k=0)(hk:k<=Aj N):k=Aj N:=by
 refine Nat.le_antisymm hk ((Ba N k).2 ?_);exact(Nat.div_eq_zero_iff.1 h).resolve_left (by have:=Nat.pow_pos (n:=k) (show 0<2 by omega);omega)
theorem Kk (N k:Nat):N%2^(k+1)=N%2^k+(if bit N k then 2^k else 0):=by
 rw[Nat.pow_succ,Nat.mod_mul];unfold bit;have:N/2^k%2<2:=Nat.mod_lt _ (by omega)
 by_cases h:N/2^k%2=1
 .simp[h]
 .have:N/2^k%2=0:=by omega
  simp[this]
structure Ed (w:World) (p:Option Addr) (n c:Nat) (xs:List Bool):Prop where
 len:n=xs.length
 cap:n<=c
 max:c<=9223372036854775807
 at_:(p=none/\n=0/\c=0) ∨ ∃b off,p=some ⟨b,off,none⟩/\b<w.heap.size/\∀(i:Nat) (x:Bool),xs[i]? = some x->w.cell? ⟨b,off+i,none⟩=some (.bool x)
theorem Ed.below {w w':World}{p:Option Addr}{n c:Nat}{xs:List Bool}(h:Ed w p n c xs)(hb:Below w.heap.size w w'):Ed w' p n c xs:=by
 refine⟨h.len,h.cap,h.max,?_⟩;rcases h.at_ with h1|⟨b,off,h1,h2,h3⟩
 .exact .inl h1
 .refine .inr ⟨b,off,h1,Dj h2 hb.size,fun i x hx=>?_⟩;rw[hb.cell (p:=⟨b,off+i,none⟩) h2];exact h3 i x hx
theorem Ed.nil (w:World):Ed w none 0 0 []:=⟨rfl,Av _,by omega,.inl ⟨rfl,rfl,rfl⟩⟩
theorem Ed.pos {w:World}{p:Option Addr}{n c:Nat}{xs:List Bool}(h:Ed w p n c xs)(hn:0<n) :
  ∃b off,p=some ⟨b,off,none⟩/\b<w.heap.size/\∀(i:Nat) (x:Bool),xs[i]? = some x->w.cell? ⟨b,off+i,none⟩=some (.bool x):=by
 rcases h.at_ with h1|h1
 .omega
 .exact h1
theorem Ed.of_owns {w:World}{base:Nat}{e:TypeId}{v:Value}{n:Nat}{ws:List Bool}(h:w.ownsRow base e 1 v n (ws.map Value.bool)) :
  ∃q d,v=.slice q n d/\Ed w q n d ws/\Dv base q:=by
 have hl:ws.length=n:=by have:=h.1;simpa using this
 rcases h.2 with ⟨rfl,rfl⟩|⟨g,cap,cur,rfl,hb,hg,hnc,hcm,hcs,htake⟩
 .have:ws=[]:=List.eq_nil_of_length_eq_zero hl;subst this;exact⟨none,0,rfl,Ed.nil _,Dv.none _⟩
 .refine⟨_,cap,rfl,⟨hl.symm,hnc,by simpa [maxLen]using hcm,.inr ⟨g,0,rfl,(Mv hg).1,fun i x hx=>?_⟩⟩,fun q hq=>by cases hq;exact hb⟩;rw[Nat.zero_add,cell_of_row w g i cur e (0,0) hg];have hi:i<n:=by rw[<-hl];exact(List.getElem?_eq_some_iff.1 hx).1
  have:(cur.toList.take (n*1))[i]? = some (.bool x):=by rw[htake];simp[hx]
  rw[List.getElem?_take,if_pos (by omega)]at this
  simpa using this
theorem Tryz.info_bool:(Tryz.prog.info? 4).map (fun i=>(i.zero,i.size,i.bytes))=some (some (.bool false),1,1):=by kernel_rfl
def Ay (w:World)(p:Option Addr)(n c N:Nat):Prop:=Ed w p n c (bitsOf N)
theorem Ay.below {w w':World}{p:Option Addr}{n c N:Nat}(h:Ay w p n c N)(hb:Below w.heap.size w w'):Ay w' p n c N:=Ed.below h hb
theorem Do {w:World}{q:Option Addr}{m d N:Nat}(k:Ay w q m d N):m=Aj N:=by have:=k.len;rwa [Ax]at this
def Gi (N:Nat)(w:World)(e:Ending)(w':World):Prop:=∃p n c,e=.returned (.slice p n c)/\Ay w' p n c N/\Below w.heap.size w w'/\Dv w.heap.size p
theorem Oi (N:Nat)(w:World)(hN:N<18446744073709551616) :
  Calls Tryz.prog 27 #[.int .u64 N] w (Gi N w):=by
 obtain⟨i0,hi,hz0,hz1,hz2⟩:=info_parts Tryz.info_bool;have h64:Aj N<=64:=(Ba N 64).2 hN;have hown:=World.ownsRow_made w (base:=w.heap.size) (e := 4) (size:=1) #[] 0 (Av _) (by simp[maxLen]) (by simp);go_enter Tryz.func27,Tryz.ntmps27;go_wp2
 go_loopw [0,3] (fun u v wr=>∃k x:Nat,k<=Aj N/\Hid (N/2^k=x)/\u=.int .u64 x/\x<18446744073709551616/\wr.ownsRow w.heap.size 4 1 v k ((Br N k).map Value.bool)/\Below w.heap.size w wr) (fun u _ _=>(intOf u).toNat)
 case atStart=>
  refine⟨0,N,Nat.zero_le _,Ad (by simp),rfl,hN,?_,(Be _ _).alloc (Av _) _⟩;simpa [Br]using hown
 case round=>
  obtain⟨k,x,hk,hx,rfl,hx1,ho,hbw⟩:=hrel;have hh:Hid (N/2^(k+1)=x/2):=Ad (by rw[Nat.pow_succ,<-Nat.div_div_eq_div_mul,hx.out]);have hbt:bit N k=((x:Int)%2==1):=by
   unfold bit;rw[hx.out,Bool.eq_iff_iff];simp;omega
  have HB:=Ad hbt;clear hbt
  go_wp2_with (at_builtin;refine wpList_append_own _ rfl _ _ 28 rfl w.heap.size 4 i0 (.bool false) 1 1 Tryz.underlying28 hi hz0 hz1 hz2 rfl (by decide) _ _ _ rfl (ho.alloc _) ⟨wr.heap.size,0,none⟩ 1 1 [.bool ((x:Int)%2==1)] rfl rfl ?c1 ?c2 ?c3 ?c4 ?c5 ?_)
  case c1=>
   intro j u hj
   match j,hj with
   | 0,hj=>simp at hj;subst hj;simp[Addr.add]
  case c2=>intro u hu;simp at hu;subst hu;rfl
  case c3=>unfold maxLen;omega
  case c4=>omega
  case c5=>have:=hbw.size;simp;omega
  .intro v' w1 ho' hg _;have hx0:0<x:=by assumption
   have hkl:k<Aj N:=aU (by rw[hx.out];exact hx0);have hbw1:Below w.heap.size w w1:=(hbw.alloc hbw.size _).grown hg (by have:=hbw.size;simp;omega) (fun j hj=>(ho.lt j hj).1);have ho1:w1.ownsRow w.heap.size 4 1 v' (k+1) ((Br N (k+1)).map Value.bool):=by
    rw[Dp,List.map_append,HB.out];exact ho'
   clear ho' hg ho;go_wp2;go_roundw
   case rel=>exact⟨k+1,x/2,by omega,hh,by simp[Int.natCast_ediv],by omega,ho1,hbw1⟩
   case measure=>simp[intOf];omega
  .have hx0:¬0<x:=by assumption
   have hkl:k=Aj N:=jJ (by rw[hx.out];omega) hk;subst hkl;obtain⟨q,d,rfl,hrow,hq⟩:=Ed.of_owns ho;go_ret;exact⟨q,Aj N,d,rfl,hrow,hbw,hq⟩
def Ct (bs:List Nat)(B:Nat)(v:Value)(w:World):Prop:=∃q n d,v=.slice q n d/\Row w .u8 q n d bs/\Dv B q
theorem Ct.below {bs:List Nat}{B:Nat}{v:Value}{w w':World}(h:Ct bs B v w)(hb:Below w.heap.size w w'):Ct bs B v w' :=
 let ⟨q,n,d,h1,h2,h3⟩:=h
 ⟨q,n,d,h1,h2.below hb,h3⟩
theorem Oo (w:World)(p:Option Addr)(n c N:Nat)(h:Ah w p n c N)(hn:n<1000000)(hN:Aj N<=1000000) :
  Calls Tryz.prog 96 #[.agg #[.slice p n c]] w fun e w'=>∃v,e=.returned v/\Ct (Dg N (Au N)) w.heap.size v w'/\Below w.heap.size w w':=by
 have hbx:=Cu.mk1 w (.slice p n c) 36;have hbs:Au N<=1000000:=by unfold Au;omega
 go_enter Tryz.func96,Tryz.ntmps96;go_wp2;refine Ak (by kernel_rfl) (by kernel_rfl)
  [some (.agg #[.slice p n c]),some (.agg #[.slice p n c]),none,none,none,none,none,none,none]
  [false,false,true,true,true,true,true,true,true] rfl
  (fun w1 w2=>Below w1.heap.size w1 w2)
  (fun _ w'=>Cu w w' (.slice p n c))
  (fun i v w'=>match i with
   | 2=>v=.int .i64 (Au N:Nat)
   | 3|4=>∃u,v=.tuple #[u,.int .i64 0]/\Ct (Dg N (Au N)) w.heap.size u w'
   | 5|7=>Ct (Dg N (Au N)) w.heap.size v w'
   | _=>v=.int .i64 0)
  ?_ (hbx.below (Be _ _).drew (Av _)) ?_ ?_
 .intro i v w1 w2 hf hb;split at hf
  .exact hf
  .exact hf.imp fun u h=>⟨h.1,h.2.below hb⟩
  .exact hf.imp fun u h=>⟨h.1,h.2.below hb⟩
  .exact hf.below hb
  .exact hf.below hb
  .exact hf
 .simp only[Bh,Nat.reduceAdd];refine⟨?_,?_,?_,?_,?_,?_,?_,?_,?_,trivial⟩
  case refine_3=>
   intro D sp w' hD hW hdp hbx'
   (with_reducible refine Aa (w1:=w') (f := 150) (args:=#[.agg #[.slice p n c]]) ?_ ?_ ?_)
   .simp only[Region.wanted]
   .simp[Act.eval,Act.put,go_sem]
   .refine(Ig w' p n c N (h.below hbx'.bel) hn (by omega)).mono ?_;rintro e w2 ⟨rfl,hb⟩;exact⟨_,rfl,hb,rfl,hbx'.later hb⟩
  case refine_4=>
   intro D sp w' hD hW hdp hbx';have h2:sp 2=.int .i64 (Au N:Nat):=(hdp 2 (mq (by kernel_rfl))).2
   (with_reducible refine Aa (w1:=w') (f := 149) (args:=#[.agg #[.slice p n c],.int .i64 (Au N:Nat)]) ?_ ?_ ?_)
   .simp only[Region.wanted]
   .simp[Act.eval,Act.put,go_sem,h2]
   .refine(Xm w' p n c N (Au N:Nat) (h.below hbx'.bel) hn (by omega) (by omega) (by omega)).mono ?_;rintro e w2 ⟨q,m,d,k,rfl,hrow,hk,hb,hq⟩;have e1:¬((Au N:Nat):Int)<0:=by omega
    have e2:¬((Au N:Nat):Int)<Au N:=by omega
    rw[if_neg e1,if_neg e2]at hrow hk
    rw[hk];exact⟨_,rfl,hb,⟨_,rfl,q,m,d,rfl,hrow,hq.mono hbx'.bel.size⟩,hbx'.later hb⟩
  case refine_5=>
   intro D sp w' hD hW hdp hbx';have hx:∃u,sp 3=.tuple #[u,.int .i64 0]/\Ct (Dg N (Au N)) w.heap.size u w':=(hdp 3 (mq (by kernel_rfl))).2
   (with_reducible refine Az hx fun u hu=>?_)
   have h1:=hu.1;have h2:=hu.2
   (with_reducible refine Ai (w1:=w') (v:=.tuple #[u,.int .i64 0]) ?_ ?_ ?_)
   .simp only[Region.wanted]
   .simp[execOp,Act.eval,Act.put,go_sem,h1]
   .exact⟨Be _ _,⟨u,rfl,h2⟩,hbx'⟩
  case refine_6=>
   intro D sp w' hD hW hdp hbx';have hx:∃u,sp 4=.tuple #[u,.int .i64 0]/\Ct (Dg N (Au N)) w.heap.size u w':=(hdp 4 (mq (by kernel_rfl))).2
   (with_reducible refine Az hx fun u hu=>?_)
   have h1:=hu.1;have h2:=hu.2
   (with_reducible refine Ai (w1:=w') (v:=u) ?_ ?_ ?_)
   .simp only[Region.wanted]
   .simp[execOp,Act.eval,Act.put,go_sem,h1]
   .exact⟨Be _ _,h2,hbx'⟩
  case refine_7=>
   intro D sp w' hD hW hdp hbx';have hx:∃u,sp 4=.tuple #[u,.int .i64 0]/\Ct (Dg N (Au N)) w.heap.size u w':=(hdp 4 (mq (by kernel_rfl))).2
   (with_reducible refine Az hx fun u hu=>?_)
   have h1:=hu.1;have h2:=hu.2
   (with_reducible refine Ai (w1:=w') (v:=.int .i64 0) ?_ ?_ ?_)
   .simp only[Region.wanted]
   .simp[execOp,Act.eval,Act.put,go_sem,h1]
   .exact⟨Be _ _,rfl,hbx'⟩
  case refine_8=>
   intro D sp w' hD hW hdp hbx';have h2:Ct (Dg N (Au N)) w.heap.size (sp 5) w':=(hdp 5 (mq (by kernel_rfl))).2
   (with_reducible refine Ai (w1:=w') (v:=sp 5) ?_ ?_ ?_)
   .simp only[Region.wanted]
   .simp[execOp,Act.eval,Act.put,go_sem]
   .exact⟨Be _ _,h2,hbx'⟩
  case refine_9=>
   intro D sp w' hD hW hdp hbx';have h2:sp 6=.int .i64 0:=(hdp 6 (mq (by kernel_rfl))).2
   (with_reducible refine Ai (w1:=w') (v:=.int .i64 0) ?_ ?_ ?_)
   .simp only[Region.wanted]
   .simp[execOp,Act.eval,Act.put,go_sem,h2]
   .exact⟨Be _ _,rfl,hbx'⟩
  all_goals
   intro D sp w' hD hW hdp hbx';have c0:=hbx'.c0;simp[asked,Region.wanted,Oper.gives,execOp,Act.eval,Act.put,go_sem,c0]
 .intro sp w' hsp hbx';have h7:Ct (Dg N (Au N)) w.heap.size (sp 7) w':=hsp 7 rfl;clear hsp;simp only[An,Nat.reduceAdd];generalize sp 7=u at *
  go_simp
  go_wp2;go_ret;exact⟨_,rfl,h7,hbx'.bel⟩
theorem cN (V n:Nat):Dl V (n+1)=(V%256)::Dl (V/256) n:=by
 simp[Dl,List.range_succ_eq_map,Function.comp_def,Fl,Hg,Nat.div_div_eq_div_mul]
theorem aQ:∀(xs:List Nat),Bb xs->Dl (le xs) xs.length=xs
 | [],_=>by simp[Dl]
 | x::xs,h=>by
  have hx:x<256:=h x (by simp);have e:=aQ xs (fun y hy=>h y (by simp[hy]));rw[List.length_cons,cN];simp only[le];rw[show (x+256*le xs)%256=x by omega,show (x+256*le xs)/256=le xs by omega,e]
theorem fL:∀(xs:List Nat) (q d:Nat),q<xs.length->le (xs.set q (xs.getD q 0+d))=le xs+B8 q*d
 | x::xs,0,d,_=>by simp[le,Hg];omega
 | x::xs,q+1,d,h=>by
  have e:=fL xs q d (by simpa using h);simp only[List.set_cons_succ,le,List.getD_cons_succ,Fl];rw[e,Nat.mul_add,Nat.mul_assoc];omega
theorem Wl {V n j:Nat}(h:j<n):(Dl V n)[j]? = some (V/B8 j%256):=by simp[Dl,h]
theorem cM {V n j:Nat}(h:j<n):(Dl V n).getD j 0=V/B8 j%256:=by rw[De,Wl h];rfl
theorem Wm {M k n:Nat}(hM:M<2^k)(hk:k/8<n) :
  M/B8 (k/8)%256<2^(k%8)/\(Dl M n).set (k/8) (M/B8 (k/8)%256+2^(k%8))=Dl (M+2^k) n:=by
 have e2:2^k=B8 (k/8)*2^(k%8):=by
  rw[Hp,<-Nat.pow_add,Nat.div_add_mod]
 have hlt:M/B8 (k/8)<2^(k%8):=by
  rw[Nat.div_lt_iff_lt_mul (aG _),Nat.mul_comm,<-e2];exact hM
 have hp:2^(k%8)<=2^7:=Nat.pow_le_pow_right (by omega) (by omega);have hmod:M/B8 (k/8)%256<2^(k%8):=Nat.lt_of_le_of_lt (Nat.mod_le _ _) hlt;refine⟨hmod,?_⟩;have hset:=fL (Dl M n) (k/8) (2^(k%8)) (by rw[Cc];exact hk);rw[cM hk,<-e2]at hset
 have hM8:M<B8 n:=by
  rw[Hp];exact Dj hM (Nat.pow_le_pow_right (by omega) (by omega))
 rw[Uk,Nat.mod_eq_of_lt hM8]at hset
 have hb:Bb ((Dl M n).set (k/8) (M/B8 (k/8)%256+2^(k%8))):=by
  intro y hy;rcases List.mem_or_eq_of_mem_set hy with h|rfl
  .exact Lk M n y h
  .omega
 have:=aQ _ hb;rw[hset,List.length_set,Cc]at this
 exact this.symm
theorem gM {M k n j:Nat}(hM:M<2^k)(hk:k/8<n)(hj:j=n-1-k/8) :
  (Dg M n).set j (M/B8 (k/8)%256+2^(k%8))=Dg (M+2^k) n:=by
 subst hj;have:=Oj (Dl M n) (k/8) (M/B8 (k/8)%256+2^(k%8)) (by rw[Cc];exact hk);rw[Cc]at this
 unfold Dg;rw[this,(Wm hM hk).2]
theorem gL {M n j q:Nat}(hq:q<n)(hj:j=n-1-q):(Dg M n)[j]? = some (M/B8 q%256):=by
 subst hj;unfold Dg;rw[List.getElem?_reverse (by rw[Cc];omega),Cc,show n-1-(n-1-q)=q by omega,Wl hq]
theorem dQ (n:Nat):Dg 0 n=List.replicate n 0:=by
 unfold Dg Dl;apply List.ext_getElem (by simp);intro i h1 h2;simp
theorem Jy (M n:Nat):(Dg M n).length=n:=by simp[Dg,Cc]
def jS (N s:Nat)(w:World)(e:Ending)(w':World):Prop:=∃v,e=.returned (.tuple #[v,.bool (decide (Au N<=s))]) /\
 Ct (if Au N<=s then Dg N s else []) w.heap.size v w'/\Below w.heap.size w w'
theorem Tw (w:World)(p:Option Addr)(n c N s:Nat)(h:Ay w p n c N)(hs:s<=1000000)(hN:Aj N<=1000000000) :
  Calls Tryz.prog 95 #[.slice p n c,.int .i64 s] w (jS N s w):=by
 have hl:n=Aj N:=by have:=h.len;rwa [Ax]at this
 by_cases h2:s<Au N
 .have hd:decide (Au N<=s)=false:=by simp;omega
  have h3:(s:Int)<((n:Int)+7)/8:=by unfold Au at h2;omega
  have hw7:IntKind.i64.wrap ((n:Int)+7)=(n:Int)+7:=IntWalk.i64_in _ (by omega);have hw8:IntKind.i64.wrap (((n:Int)+7)/8)=((n:Int)+7)/8:=IntWalk.i64_in _ (by omega);have hw9:wrap64 (((n:Int)+7).tdiv 8)=((n:Int)+7)/8:=by
   rw[Int.tdiv_eq_ediv_of_nonneg (by omega)];exact IntWalk.wrap64_in _ (by omega)
  have H2:=Ad h2;have HD:=Ad hd;clear hl h2 hd;go_enter Tryz.func95,Tryz.ntmps95;go_wp2
  go_ret2
  refine⟨.slice none 0 0,by simp[HD.out],?_,Be _ _⟩;rw[if_neg (by have:=H2.out;omega)];exact⟨none,0,0,rfl,Row.nil _ _,Dv.none _⟩
 .have hd:decide (Au N<=s)=true:=by simp;omega
  have hmk:=Uh s (by omega);have hsn:n<=8*s:=by unfold Au at h2;omega
  have h3:¬(s:Int)<((n:Int)+7)/8:=by omega
  have hw7:IntKind.i64.wrap ((n:Int)+7)=(n:Int)+7:=IntWalk.i64_in _ (by omega);have hw8:IntKind.i64.wrap (((n:Int)+7)/8)=((n:Int)+7)/8:=IntWalk.i64_in _ (by omega);have H2:=Ad h2;have HD:=Ad hd;have HL:=Ad hl;have hn9:n<=1000000000:=by omega
  clear hl h2 hd;go_enter Tryz.func95,Tryz.ntmps95;go_wp2
  go_loopw [19] (fun i wr=>∃k:Nat,k<=n/\i=.int .i64 k/\w.heap.size<wr.heap.size/\Below w.heap.size w wr/\Bl wr w.heap.size 5 .u8 (Dg (N%2^k) s)) (fun i _=>n-(intOf i).toNat)
  case atStart=>
   refine⟨0,by omega,rfl,by simp,(Be _ _).alloc (Av _) _,?_⟩;have:=Bl.zeros w 5 .u8 s;rw[Nat.pow_zero,Nat.mod_one,dQ];exact this
  case round=>
   obtain⟨k,hk,rfl,hsz,hbw,hblk⟩:=hrel
   by_cases hkn:k<n
   .obtain⟨b,off,rfl,hb,hc⟩:=h.pos (by omega);obtain⟨x,hx⟩:∃x,bit N k=x:=⟨_,rfl⟩
    have hci:wr.cell? ⟨b,off+k,none⟩=some (.bool x):=by
     rw[(Bv hbw).1 _ _ hb];exact hc k x (by rw[Ck (by rw[<-HL.out];exact hkn),hx])
    have HX:=Ad hx;clear hc hx;go_wp2
    .have hxt:x=true:=by assumption
     have HB:Hid (N%2^(k+1)=N%2^k+2^k):=Ad (by rw[Kk,HX.out,if_pos hxt]);have hMk:N%2^k<2^k:=Nat.mod_lt _ (Nat.pow_pos (by omega));obtain⟨q,hq⟩:∃q,k/8=q:=⟨_,rfl⟩
     obtain⟨r,hr⟩:∃r,k%8=r:=⟨_,rfl⟩
     have hqs:q<s:=by omega
     obtain⟨j,hj⟩:∃j,s-1-q=j:=⟨_,rfl⟩
     obtain⟨z,hz⟩:∃z,2^r=z:=⟨_,rfl⟩
     have hset:=gM (n:=s) hMk (by omega) (j:=j) (by omega);have hget:=gL (M:=N%2^k) hqs hj.symm;have hlt:=(Wm (n:=s) hMk (by omega)).1;rw[hq,hr]at hset hlt
     obtain⟨d,hd⟩:∃d,N%2^k/B8 q%256=d:=⟨_,rfl⟩
     rw[hd]at hset hget hlt
     rw[hz]at hset hlt
     have hr8:r<8:=by omega
     have hz8:z<=128:=by rw[<-hz];exact Nat.pow_le_pow_right (show 0<2 by omega) (show r<=7 by omega)
     have t1:IntKind.i64.wrap ((k:Int)/8)=(q:Int):=by rw[IntWalk.i64_in _ (by omega)];omega
     have t2:(k:Int).tmod 8=(r:Int):=by rw[Int.tmod_eq_emod_of_nonneg (by omega)];omega
     have t4:IntKind.i64.wrap ((s:Int)-1)=(s:Int)-1:=IntWalk.i64_in _ (by omega);have t5:IntKind.i64.wrap ((s:Int)-1-q)=(j:Nat):=by
      rw[IntWalk.i64_in _ (by omega)];omega
     have t6:(j:Int)<s:=by omega
     have t7:j<s:=by omega
     have t8:IntKind.u8.wrap ((d:Int)+z)=(d:Int)+z:=IntWalk.u8_in _ (by omega);have t9:IntKind.u8.wrap ((2:Int)^r)=z:=by
      rw[show ((2:Int)^r)=(z:Nat) by rw[<-hz,Int.natCast_pow];rfl];exact IntWalk.u8_in _ (by omega)
     clear hq hr hd hj hMk;have HJ:=Ad hz;clear hz;refine Ak (by kernel_rfl) (by kernel_rfl)
      [some (.slice (some ⟨w.heap.size,0,none⟩) s s),some (.int .i64 s),some (.int .i64 ((s:Int)-1)),some (.int .i64 k),some (.int .i64 (q:Nat)),some (.int .i64 (j:Nat)),some (.pointer (some ⟨w.heap.size,j,none⟩)),some (.int .u8 (d:Nat)),
       some (.int .i64 k),some (.int .i64 (r:Nat)),some (.int .u8 (z:Nat)),some (.int .u8 (d+z:Nat)),some (.pointer (some ⟨w.heap.size,j,none⟩)),none]
      [false,false,false,false,false,false,false,false,false,false,false,false,false,true] rfl
      (fun _ _=>True)
      (fun D w'=>Below w.heap.size w w'/\w.heap.size<w'.heap.size/\Bl w' w.heap.size 5 .u8 (if D 13 then Dg (N%2^k+2^k) s else Dg (N%2^k) s))
      (fun _ _ _=>True)
      (fun _ _ _ _ h _=>h) ⟨hbw.trans ((Be _ _).drew.mono (Av _)),hsz,hblk⟩ ?_ ?_
     .simp only[Bh,Nat.reduceAdd];refine⟨?_,?_,?_,?_,?_,?_,?_,?_,?_,?_,?_,?_,?_,?_,trivial⟩
      case refine_8=>
       intro D sp w' hD hW hdp ⟨hb',hsz',hblk'⟩;have h13:D 13=false:=hW 13 (mq (by kernel_rfl));rw[h13]at hblk'
       simp only[Bool.false_eq_true,if_false]at hblk';have hcl:w'.cell? ⟨w.heap.size,j,none⟩=some (.int .u8 (d:Nat)):=hblk'.cell hget;simp[asked,Region.wanted,Oper.gives,execOp,Act.eval,Act.put,go_sem,hcl]
      case refine_14=>
       intro D sp w' hD hW hdp ⟨hb',hsz',hblk'⟩;rw[hD]at hblk'
       simp only[Bool.false_eq_true,if_false]at hblk';have hcl:w'.cell? ⟨w.heap.size,j,none⟩=some (.int .u8 (d:Nat)):=hblk'.cell hget;have hfr:=hblk'.free j
       (with_reducible refine Ar (w1:=w'.setCell ⟨w.heap.size,j,none⟩ (.int .u8 (d+z:Nat))) ?_ ?_ ?_)
       .simp only[Region.wanted]
       .simp[execOp,Act.eval,Act.put,go_sem,hcl,hfr]
       .refine⟨trivial,trivial,hb'.setCell (Av _) _,by simpa using hsz',?_⟩;simp only[decide_true,Bool.or_true,if_true];rw[<-hset];exact hblk'.set _ _
      all_goals
       intro D sp w' hD hW hdp ⟨hb',hsz',hblk'⟩;simp[asked,Region.wanted,Oper.gives,execOp,Act.eval,Act.put,go_sem,t1,t2,t4,t5,t6,t8,t9]
     .intro sp w' hsp ⟨hb',hsz',hblk'⟩;have hblk2:Bl w' w.heap.size 5 .u8 (Dg (N%2^k+2^k) s):=hblk';clear hblk' hsp t1 t2 t4 t5 t6 t8 t9;simp only[An,Nat.reduceAdd]
      go_simp
      go_wp2;go_roundw
      case rel=>exact⟨k+1,by omega,by go_num,hsz',hb',by rw[HB.out];exact hblk2⟩
      case measure=>simp[intOf];omega
    .have hxt:x=false:=by assumption
     have HB:Hid (N%2^(k+1)=N%2^k):=Ad (by rw[Kk,HX.out,if_neg (by simp[hxt]),Nat.add_zero]);go_roundw
     case rel=>exact⟨k+1,by omega,by go_num,hsz,hbw,by rw[HB.out];exact hblk⟩
     case measure=>simp[intOf];omega
   .have HK:Hid (k=n):=Ad (by omega);go_wp2
    go_ret2
    refine⟨.slice (some ⟨w.heap.size,0,none⟩) s s,by simp[HD.out],?_,hbw⟩;rw[if_pos (by have:=H2.out;omega)];have e:N%2^k=N:=Nat.mod_eq_of_lt ((Ba N k).1 (by rw[HK.out,HL.out];exact Av _));rw[e]at hblk
    exact⟨_,s,s,rfl,hblk.row (by rw[Jy]) (Av _) (by omega),fun q hq=>by cases hq;exact Av _⟩
end Go.Proofs.YtnbmfaihlefgfaaGreatDoor
