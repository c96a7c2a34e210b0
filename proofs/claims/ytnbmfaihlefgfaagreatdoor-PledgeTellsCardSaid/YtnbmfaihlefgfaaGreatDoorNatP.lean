/- The document's number as bytes. -/
import Derived.Lib.Tables
import Derived.Lib.BitFns
import Derived.Test.YtnbmfaihlefgfaaGreatDoorNatN
set_option maxRecDepth 1000000
set_option maxHeartbeats 16000000
set_option linter.all false
namespace Go.Proofs.YtnbmfaihlefgfaaGreatDoor
open Go Go.RowKit Go.Proofs.YtnbmfaihlefgfaaGreatDoor.Flow
theorem Ye:(⟨((([0,1,2,2,3,3,3,3,4,4,4,4,4,4,4,4,5,5,5,5,5,5,5,5,5,5,5,5,5,5,5,5,6,6,6,6,6,6,6,6,6,6,6,6,6,6,6,6,6,6,6,6,6,6,6,6,6,6,6,6,6,6,6,6]:List UInt8).append [7,7,7,7,7,7,7,7,7,7,7,7,7,7,7,7,7,7,7,7,7,7,7,7,7,7,7,7,7,7,7,7,7,7,7,7,7,7,7,7,7,7,7,7,7,7,7,7,7,7,7,7,7,7,7,7,7,7,7,7,7,7,7,7]).append (([8,8,8,8,8,8,8,8,8,8,8,8,8,8,8,8,8,8,8,8,8,8,8,8,8,8,8,8,8,8,8,8,8,8,8,8,8,8,8,8,8,8,8,8,8,8,8,8,8,8,8,8,8,8,8,8,8,8,8,8,8,8,8,8]:List UInt8).append [8,8,8,8,8,8,8,8,8,8,8,8,8,8,8,8,8,8,8,8,8,8,8,8,8,8,8,8,8,8,8,8,8,8,8,8,8,8,8,8,8,8,8,8,8,8,8,8,8,8,8,8,8,8,8,8,8,8,8,8,8,8,8,8])).toArray⟩:ByteArray)=Lib.len8tab:=by kernel_rfl
theorem eN:∀n:Fin 256,Lib.len8 (n.val:Int)=(Al n.val:Int):=by decide +kernel
theorem Qn (y:Int)(h0:0<=y)(h1:y<=255)(h:y.toNat<Lib.len8tab.size):((Lib.len8tab[y.toNat]'h).toNat:Int)=(Al y.toNat:Nat):=by
 have e:=eN ⟨y.toNat,by omega⟩;simp only[Int.toNat_of_nonneg h0]at e;rw[<-e];unfold Lib.len8;rw[getElem?_pos Lib.len8tab y.toNat h];rfl
theorem Og (k:Nat)(m n:Nat)(hk:k<=24)(hm:Al m<=64)(e:Al n=k+Al m):wrap64 ((k:Int)+wrap64 (Al m:Nat))=(Al n:Nat):=by
 rw[e,IntWalk.wrap64_in (Al m:Nat) ⟨by omega,by omega⟩,IntWalk.wrap64_in _ ⟨by omega,by omega⟩];omega
theorem aE (m:Nat)(hm:Al m<=64):wrap64 (wrap64 (Al m:Nat))=(Al m:Nat):=by
 rw[IntWalk.wrap64_in (Al m:Nat) ⟨by omega,by omega⟩,IntWalk.wrap64_in _ ⟨by omega,by omega⟩]
theorem eO (x:Int)(w:World)(h0:0<=x)(hx:x<=4294967295) :
  Calls Tryz.prog 227 #[.int .u32 x] w fun e w'=>e=.returned (.int .i64 (Al x.toNat:Nat))/\w=w':=by
 have hs:Lib.len8tab.size=256:=Lib.len8tab_size;go_enter Tryz.func227,Tryz.ntmps227;rw[Ye];go_wp2
 all_goals first
  | (go_ret;refine⟨congrArg Ending.returned (congrArg (Value.int IntKind.i64) ?_),rfl⟩)
  | (exfalso;omega)
 all_goals first
  | (rw[Qn (x/65536/256) (by omega) (by omega)];exact Og 24 _ _ (by omega) (Ly (by omega)) (by rw[show (x/65536/256).toNat=x.toNat/2^24 by omega];exact Ho _ _ (by omega)))
  | (rw[Qn (x/65536) (by omega) (by omega)];exact Og 16 _ _ (by omega) (Ly (by omega)) (by rw[show (x/65536).toNat=x.toNat/2^16 by omega];exact Ho _ _ (by omega)))
  | (rw[Qn (x/256) (by omega) (by omega)];exact Og 8 _ _ (by omega) (Ly (by omega)) (by rw[show (x/256).toNat=x.toNat/2^8 by omega];exact Ho _ _ (by omega)))
  | (rw[Qn x (by omega) (by omega)];exact aE _ (Ly (by omega)))
theorem Po (x:Nat)(w:World)(hx:x<4294967296) :
  Calls Tryz.prog 227 #[.int .u32 x] w fun e w'=>e=.returned (.int .i64 (Al x:Nat))/\w=w':=by
 have:=eO x w (by omega) (by omega);simpa using this
theorem cG {ws:List Nat}{x:Nat}(hw:Words (ws++[x]))(hx:x≠0):Al (val (ws++[x]))=32*ws.length+Al x:=by
 rw[Dn];have hb:Ao ws.length=2^(32*ws.length):=by unfold Ao;rw[show (4294967296:Nat)=2^32 from rfl,<-Nat.pow_mul]
 have h1:val ws<Ao ws.length:=Words.lt fun y hy=>hw y (by simp[hy])
 have hd:(val ws+Ao ws.length*x)/2^(32*ws.length)=x:=by
  rw[<-hb,Nat.add_mul_div_left _ _ (Ep _),Nat.div_eq_of_lt h1,Nat.zero_add]
 have:=Ho (val ws+Ao ws.length*x) (32*ws.length) (by rw[hd];omega);rw[hd]at this
 exact this
theorem Ex (w:World)(p:Option Addr)(n c N:Nat)(h:Ah w p n c N)(hn:n<1000000) :
  Calls Tryz.prog 199 #[.agg #[.slice p n c]] w fun e w'=>e=.returned (.int .i64 (Al N:Nat))/\Below w.heap.size w w':=by
 have hbx:=Cu.mk1 w (.slice p n c) 36
 by_cases h0:n=0
 .have hN:N=0:=h.zero.1 h0;subst hN;have hd:decide (n=0)=true:=by simpa using h0
  clear h0;go_enter Tryz.func199,Tryz.ntmps199
  go_wp2_with fail
  refine(Dw _ p n c).mono ?_;rintro e w1 ⟨rfl,hb1⟩;go_wp2;go_ret;exact⟨rfl,(hbx.later hb1).bel⟩
 .obtain⟨m,rfl⟩:∃m,n=m+1:=⟨n-1,by omega⟩
  obtain⟨ws,h1,h2,h3,h4⟩:=h.ex;have hl:=h1.len;obtain⟨xs,x,rfl⟩:∃xs x,ws=xs++[x]:=by
   rcases List.eq_nil_or_concat ws with rfl|⟨xs,x,h⟩
   .simp at hl
   .exact⟨xs,x,by simpa using h⟩
  have hxm:xs.length=m:=by simp at hl;omega
  have hx0:x≠0:=by simpa using h3
  have hx1:x<4294967296:=h2 x (by simp);have hbl:=cG h2 hx0;rw[h4,hxm]at hbl
  have HBL:=Ag hbl;have hxb:Al x<=32:=by rw[Bc];exact hx1
  obtain⟨b,off,rfl,hb,hc⟩:=h1.pos (by omega);have hci:∀w',Below w.heap.size w w'->w'.cell? ⟨b,off+m,none⟩=some (.int .u32 (x:Nat)):=fun w' hb'=>by
   rw[(By hb').1 _ _ hb];exact hc m x (by rw[<-hxm];simp)
  have hd:decide (m+1=0)=false:=by simp
  clear hc hl h4 hbl hxm;go_enter Tryz.func199,Tryz.ntmps199
  go_wp2_with fail
  refine(Dw _ _ (m+1) c).mono ?_;rintro e w1 ⟨rfl,hb1⟩;have hbx1:=hbx.later hb1;have c0:=hbx1.c0;have hcx:=hci w1 hbx1.bel;clear hci
  go_wp2_with fail
  refine(Po x _ hx1).mono ?_;rintro e w2 ⟨rfl,rfl⟩;go_wp2;go_ret;refine⟨?_,hbx1.bel⟩;rw[HBL.out];exact congrArg (fun z=>Ending.returned (.int .i64 z)) (by omega)
def Dv (N n:Nat):List Nat:=(List.range n).map fun i=>N/B8 i%256
def Do (N n:Nat):List Nat:=(Dv N n).reverse
def Aw (N:Nat):Nat:=(Al N+7)/8
theorem Ci (N n:Nat):(Dv N n).length=n:=by simp[Dv]
theorem Ot (N n:Nat):Dv N (n+1)=Dv N n++[N/B8 n%256]:=by simp[Dv,List.range_succ]
theorem Mm (N n:Nat):Be (Dv N n):=by
 intro x hx;simp only[Dv,List.mem_map]at hx;obtain⟨j,_,rfl⟩:=hx;exact Nat.mod_lt _ (by omega)
theorem Zm (N:Nat):N<B8 (Aw N):=by
 rw[In];refine(Bc N _).1 ?_;unfold Aw;omega
theorem Nv {N n:Nat}:Aw N<=n ↔ N<B8 n:=by
 rw[In,<-Bc];unfold Aw;omega
theorem iW {N k n:Nat}(h:N<B8 k)(hk:k<=n):Dv N k++List.replicate (n-k) 0=Dv N n:=by
 obtain⟨d,rfl⟩:∃d,n=k+d:=⟨n-k,by omega⟩
 rw[Nat.add_sub_cancel_left];clear hk
 induction d with
 | zero=>simp
 | succ d ih=>
  rw[List.replicate_succ',<-List.append_assoc,ih,<-Nat.add_assoc,Ot]
  congr 2
  have:B8 k<=B8 (k+d):=Ie (by omega);rw[Nat.div_eq_of_lt (by omega)]
theorem Vr (N:Nat):∀n,le (Dv N n)=N%B8 n
 | 0=>by simp[Dv,le,Ic,Nat.mod_one]
 | n+1=>by rw[Ot,cZ,Ci,Vr N n,Gg,Nat.mul_comm 256,Nat.mod_mul]
theorem Pl (l:List Nat)(k x:Nat)(hk:k<l.length):l.reverse.set (l.length-1-k) x=(l.set k x).reverse:=by
 apply List.ext_getElem (by simp);intro i h1 h2;simp only[List.length_set,List.length_reverse]at h1;rw[List.getElem_set,List.getElem_reverse,List.getElem_reverse,List.getElem_set];simp only[List.length_set]
 by_cases h:l.length-1-k=i
 .rw[if_pos h,if_pos (by omega)]
 .rw[if_neg h,if_neg (by omega)]
theorem Wl {N q r:Nat}(hr:r<4):N/Ao q%4294967296/B8 r%256=N/B8 (4*q+r)%256:=by
 have e:(4294967296:Nat)=B8 r*(256*B8 (3-r)):=by
  rw[<-Gg,<-cR,show r+(3-r+1)=4 by omega];rfl
 rw[e,Nat.mod_mul_right_div_self,Nat.mod_mul_right_mod,Nat.div_div_eq_div_mul,cR,Ma]
theorem Ji (w:World)(p:Option Addr)(n c N:Nat)(h:Ah w p n c N)(hn:n<1000000)(hN:Al N<=1000000000) :
  Calls Tryz.prog 150 #[.agg #[.slice p n c]] w fun e w'=>e=.returned (.int .i64 (Aw N:Nat))/\Below w.heap.size w w':=by
 have hbx:=Cu.mk1 w (.slice p n c) 36;obtain⟨k,hk⟩:∃k,Al N=k:=⟨_,rfl⟩
 have HK:Hid (Aw N=(k+7)/8):=by rw[<-hk];rfl
 go_enter Tryz.func150,Tryz.ntmps150
 go_wp2_with fail
 refine(Ex _ p n c N (h.below hbx.bel) hn).mono ?_;rintro e w1 ⟨rfl,hb1⟩;rw[hk]at hN
 simp only[hk];clear hk;go_wp2;go_ret;refine⟨?_,(hbx.later hb1).bel⟩;rw[HK.out];exact congrArg (fun z=>Ending.returned (.int .i64 z)) (by omega)
def Mx (N:Nat)(size:Int)(w:World)(e:Ending)(w':World):Prop :=
 ∃q n d k,e=.returned (.tuple #[.slice q n d,.int .i64 k])/\Row w' .u8 q n d (if size<0 then [] else if size<Aw N then [] else Do N size.toNat) /\
  (k=if size<0 then 1 else if size<Aw N then 2 else 0)/\Below w.heap.size w w'/\Eh w.heap.size q
theorem fK (w:World)(p:Option Addr)(n c N s:Nat)(h:Ah w p n c N)(hn:n<1000000)(hN:Al N<=1000000000)(hs:(s:Int)<=1000000)(h2:¬(s:Int)<Aw N) :
  Calls Tryz.prog 149 #[.agg #[.slice p n c],.int .i64 s] w fun e w'=>∃g,e=.returned (.tuple #[.slice (some ⟨g,0,none⟩) s s,.int .i64 0])/\Br w' g 5 .u8 (Do N s)/\Below w.heap.size w w'/\w.heap.size<=g:=by
 have hbx:=Cu.mk1 w (.slice p n c) 36;have h1:¬(s:Int)<0:=by omega
 obtain⟨m,hm⟩:∃m,Aw N=m:=⟨_,rfl⟩
 have HM:Hid (∀k,m<=k ↔ N<B8 k):=fun k=>by rw[<-hm];exact Nv
 rw[hm]at h2
 obtain⟨ws,r1,r2,r3,r4⟩:=h.ex;have hmk:=Vo s (by omega);have hms:m<=s:=by omega
 have HR4:=Ag r4;go_enter Tryz.func149,Tryz.ntmps149
 go_wp2_with fail
 refine(Ji _ p n c N (h.below hbx.bel) hn hN).mono ?_;rintro e w1 ⟨rfl,hb1⟩;simp only[hm];clear hm r4;have hbx1:=hbx.later hb1;have hz1:w.heap.size<w1.heap.size:=hbx1.size;go_wp2
 go_loopw [24] (fun i wr=>∃k:Nat,k<=m/\i=.int .i64 k/\Cu w wr (.slice p n c)/\w1.heap.size<wr.heap.size/\Below w1.heap.size w1 wr/\Br wr w1.heap.size 5 .u8 ((Dv N k++List.replicate (s-k) 0).reverse)) (fun i _=>m-(intOf i).toNat)
 case atStart=>
  refine⟨0,by omega,rfl,hbx1.alloc _,by simp,(Bg _ _).alloc (Av _) _,?_⟩;have:=Br.zeros w1 5 .u8 s;simpa [Dv]using this
 case round=>
  obtain⟨k,hk,rfl,hbr,hsz,hbw,hblk⟩:=hrel;have c0:=hbr.c0
  by_cases hkm:k<m
  .have hkn:k/4<n:=by
    rcases Nat.lt_or_ge (k/4) n with h3|h3
    .exact h3
    .exfalso;have h4:=r2.lt;rw[<-r1.len]at h4
     have h5:N<B8 k:=by
      have:Ao n<=B8 k:=by rw[<-Ma];exact Ie (by omega)
      have:=HR4.out;omega
     have h6:=(HM.out k).2 h5;omega
   obtain⟨b,off,rfl,hb,hc⟩:=r1.pos (by omega);obtain⟨x,hx⟩:∃x,ws.getD (k/4) 0=x:=⟨_,rfl⟩
   have hci:wr.cell? ⟨b,off+k/4,none⟩=some (.int .u32 (x:Nat)):=by
    rw[(By hbr.bel).1 _ _ hb];exact hc _ x (by rw[<-hx,Dd];simp[show k/4<ws.length by have:=r1.len;omega])
   have hx1:x<4294967296:=by rw[<-hx];exact r2.get _
   have hlen:(Dv N k++List.replicate (s-k) 0).length=s:=by rw[List.length_append,Ci,List.length_replicate];omega
   have hcl:wr.cell? ⟨w1.heap.size,s-1-k,none⟩=some (.int .u8 (((Dv N k++List.replicate (s-k) 0).reverse.getD (s-1-k) 0:Nat))):=hblk.cell (by
    rw[Dd];have:s-1-k<(Dv N k++List.replicate (s-k) 0).reverse.length:=by rw[List.length_reverse,hlen];omega
    simp only[List.getElem?_eq_getElem this,Option.getD_some])
   have hfr:=hblk.free (s-1-k);have hbyte:x/2^(k%4*8)%256=N/B8 k%256:=by
    have hd:=digit ws r2 (k/4);rw[HR4.out,hx]at hd
    rw[<-hd,Nat.mul_comm (k%4) 8,<-In,Wl (Nat.mod_lt _ (by omega))]
    congr 3;omega
   have hset:Hid (Br (wr.setCell ⟨w1.heap.size,s-1-k,none⟩ (.int .u8 ((N/B8 k%256:Nat)))) w1.heap.size 5 .u8 ((Dv N (k+1)++List.replicate (s-(k+1)) 0).reverse)):=by
    have h5:=hblk.set (s-1-k) (N/B8 k%256);have h6:=Pl (Dv N k++List.replicate (s-k) 0) k (N/B8 k%256) (by rw[hlen];omega);rw[hlen]at h6
    rw[h6]at h5
    have h7:s-k=(s-(k+1))+1:=by omega
    have h8:(Dv N k++List.replicate (s-k) 0).set k (N/B8 k%256)=Dv N (k+1)++List.replicate (s-(k+1)) 0:=by
     rw[h7,Ot];have:=Ll (Dv N k) (s-(k+1)) (N/B8 k%256);rw[Ci]at this
     exact this
    rw[h8]at h5
    exact h5
   have HX:=Ag hx;have HB:=Ag hbyte;have hk3:k%4<4:=Nat.mod_lt _ (by omega);clear hc hx hbyte hlen;go_wp2;go_roundw
   case rel=>
    have e:((x:Int)/2^(k%4*8)%256)=((N/B8 k%256:Nat):Int):=by
     rw[<-HB.out];simp
    rw[e];exact⟨k+1,by omega,by go_num,hbr.below (B:=w.heap.size+1) ((Bg _ _).setCell (by simp;omega) _) (Av _),by simpa using hsz,hbw.setCell (by simp) _,hset.out⟩
   case measure=>simp[intOf];omega
  .have hkm':m<=k:=by omega
   rw[iW ((HM.out k).1 hkm') (by omega)]at hblk
   have HRow:Hid (Br wr w1.heap.size 5 .u8 (Do N s)):=hblk;have hbel:=hbr.bel;go_wp2
   go_ret2
   exact⟨_,rfl,HRow.out,hbel,Nat.le_of_lt hz1⟩
theorem Zl (w:World)(p:Option Addr)(n c N:Nat)(size:Int)(h:Ah w p n c N)(hn:n<1000000)(hN:Al N<=1000000000)(hs:size<=1000000)(hs0:-9223372036854775808<=size) :
  Calls Tryz.prog 149 #[.agg #[.slice p n c],.int .i64 size] w (Mx N size w):=by
 have hbx:=Cu.mk1 w (.slice p n c) 36
 by_cases h1:size<0
 .have HG:Hid (∀w',Below w.heap.size w w'->Mx N size w (.returned (.tuple #[.slice none 0 0,.int .i64 1])) w'):=fun w' hb=>⟨none,0,0,1,rfl,by rw[if_pos h1];exact Row.nil _ _,by rw[if_pos h1],hb,Eh.none _⟩
  go_enter Tryz.func149,Tryz.ntmps149
  go_wp2_with fail
  refine(Ji _ p n c N (h.below hbx.bel) hn hN).mono ?_;rintro e w1 ⟨rfl,hb1⟩;go_wp2
  go_ret2
  exact HG.out _ (hbx.later hb1).bel
 .by_cases h2:size<Aw N
  .have HG:Hid (∀w',Below w.heap.size w w'->Mx N size w (.returned (.tuple #[.slice none 0 0,.int .i64 2])) w'):=fun w' hb=>⟨none,0,0,2,rfl,by rw[if_neg h1,if_pos h2];exact Row.nil _ _,by rw[if_neg h1,if_pos h2],hb,Eh.none _⟩
   go_enter Tryz.func149,Tryz.ntmps149
   go_wp2_with fail
   refine(Ji _ p n c N (h.below hbx.bel) hn hN).mono ?_;rintro e w1 ⟨rfl,hb1⟩;go_wp2
   go_ret2
   exact HG.out _ (hbx.later hb1).bel
  .obtain⟨s,rfl⟩:=Int.eq_ofNat_of_zero_le (show 0<=size by omega);refine(fK w p n c N s h hn hN hs h2).mono ?_;rintro e w' ⟨g,rfl,hb,hbel,hg⟩;have hl:(Do N s).length=s:=by rw[Do,List.length_reverse,Ci]
   exact⟨some ⟨g,0,none⟩,s,s,0,rfl,by rw[if_neg h1,if_neg h2];exact hb.row hl.symm (Av _) (by omega),by rw[if_neg h1,if_neg h2],hbel,fun q hq=>by cases hq;exact hg⟩
def bit (N i:Nat):Bool:=decide (N/2^i%2=1)
def bitsOf (N:Nat):List Bool:=(List.range (Al N)).map (bit N)
def Bu (N k:Nat):List Bool:=(List.range k).map (bit N)
theorem Dz (N k:Nat):Bu N (k+1)=Bu N k++[bit N k]:=by simp[Bu,List.range_succ]
theorem Mg (N k:Nat):(Bu N k).length=k:=by simp[Bu]
theorem Ba (N:Nat):(bitsOf N).length=Al N:=by simp[bitsOf]
theorem Cp {N i:Nat}(h:i<Al N):(bitsOf N)[i]? = some (bit N i):=by simp[bitsOf,h]
theorem dE {N k:Nat}(h:0<N/2^k):k<Al N:=by
 rcases Nat.lt_or_ge k (Al N) with h1|h1
 .exact h1
 .rw[Nat.div_eq_of_lt ((Bc N k).1 h1)]at h;omega
theorem mI {N k:Nat}(h:N/2^k=0)(hk:k<=Al N):k=Al N:=by
 refine Nat.le_antisymm hk ((Bc N k).2 ?_);exact(Nat.div_eq_zero_iff.1 h).resolve_left (by have:=Nat.pow_pos (n:=k) (show 0<2 by omega);omega)
theorem Lu (N k:Nat):N%2^(k+1)=N%2^k+(if bit N k then 2^k else 0):=by
 rw[Nat.pow_succ,Nat.mod_mul];unfold bit;have:N/2^k%2<2:=Nat.mod_lt _ (by omega)
 by_cases h:N/2^k%2=1
 .simp[h]
 .have:N/2^k%2=0:=by omega
  simp[this]
structure Fd (w:World) (p:Option Addr) (n c:Nat) (xs:List Bool):Prop where
 len:n=xs.length
 cap:n<=c
 max:c<=9223372036854775807
 at_:(p=none/\n=0/\c=0) ∨ ∃b off,p=some ⟨b,off,none⟩/\b<w.heap.size/\∀(i:Nat) (x:Bool),xs[i]? = some x->w.cell? ⟨b,off+i,none⟩=some (.bool x)
theorem Fd.below {w w':World}{p:Option Addr}{n c:Nat}{xs:List Bool}(h:Fd w p n c xs)(hb:Below w.heap.size w w'):Fd w' p n c xs:=by
 refine⟨h.len,h.cap,h.max,?_⟩;rcases h.at_ with h1|⟨b,off,h1,h2,h3⟩
 .exact .inl h1
 .refine .inr ⟨b,off,h1,Dq h2 hb.size,fun i x hx=>?_⟩;rw[hb.cell (p:=⟨b,off+i,none⟩) h2];exact h3 i x hx
theorem Fd.nil (w:World):Fd w none 0 0 []:=⟨rfl,Av _,by omega,.inl ⟨rfl,rfl,rfl⟩⟩
theorem Fd.pos {w:World}{p:Option Addr}{n c:Nat}{xs:List Bool}(h:Fd w p n c xs)(hn:0<n) :
  ∃b off,p=some ⟨b,off,none⟩/\b<w.heap.size/\∀(i:Nat) (x:Bool),xs[i]? = some x->w.cell? ⟨b,off+i,none⟩=some (.bool x):=by
 rcases h.at_ with h1|h1
 .omega
 .exact h1
theorem Fd.of_owns {w:World}{base:Nat}{e:TypeId}{v:Value}{n:Nat}{ws:List Bool}(h:w.ownsRow base e 1 v n (ws.map Value.bool)) :
  ∃q d,v=.slice q n d/\Fd w q n d ws/\Eh base q:=by
 have hl:ws.length=n:=by have:=h.1;simpa using this
 rcases h.2 with ⟨rfl,rfl⟩|⟨g,cap,cur,rfl,hb,hg,hnc,hcm,hcs,htake⟩
 .have:ws=[]:=List.eq_nil_of_length_eq_zero hl;subst this;exact⟨none,0,rfl,Fd.nil _,Eh.none _⟩
 .refine⟨_,cap,rfl,⟨hl.symm,hnc,by simpa [maxLen]using hcm,.inr ⟨g,0,rfl,(Jb hg).1,fun i x hx=>?_⟩⟩,fun q hq=>by cases hq;exact hb⟩;rw[Nat.zero_add,cell_of_row w g i cur e (0,0) hg];have hi:i<n:=by rw[<-hl];exact(List.getElem?_eq_some_iff.1 hx).1
  have:(cur.toList.take (n*1))[i]? = some (.bool x):=by rw[htake];simp[hx]
  rw[List.getElem?_take,if_pos (by omega)]at this
  simpa using this
theorem Tryz.info_bool:(Tryz.prog.info? 4).map (fun i=>(i.zero,i.size,i.bytes))=some (some (.bool false),1,1):=by kernel_rfl
def Bi (w:World)(p:Option Addr)(n c N:Nat):Prop:=Fd w p n c (bitsOf N)
theorem Bi.below {w w':World}{p:Option Addr}{n c N:Nat}(h:Bi w p n c N)(hb:Below w.heap.size w w'):Bi w' p n c N:=Fd.below h hb
theorem Dh {w:World}{q:Option Addr}{m d N:Nat}(k:Bi w q m d N):m=Al N:=by have:=k.len;rwa [Ba]at this
def Hf (N:Nat)(w:World)(e:Ending)(w':World):Prop:=∃p n c,e=.returned (.slice p n c)/\Bi w' p n c N/\Below w.heap.size w w'/\Eh w.heap.size p
theorem Kh (N:Nat)(w:World)(hN:N<18446744073709551616) :
  Calls Tryz.prog 27 #[.int .u64 N] w (Hf N w):=by
 obtain⟨i0,hi,hz0,hz1,hz2⟩:=info_parts Tryz.info_bool;have h64:Al N<=64:=(Bc N 64).2 hN;have hown:=World.ownsRow_made w (base:=w.heap.size) (e := 4) (size:=1) #[] 0 (Av _) (by simp[maxLen]) (by simp);go_enter Tryz.func27,Tryz.ntmps27;go_wp2
 go_loopw [0,3] (fun u v wr=>∃k x:Nat,k<=Al N/\Hid (N/2^k=x)/\u=.int .u64 x/\x<18446744073709551616/\wr.ownsRow w.heap.size 4 1 v k ((Bu N k).map Value.bool)/\Below w.heap.size w wr) (fun u _ _=>(intOf u).toNat)
 case atStart=>
  refine⟨0,N,Nat.zero_le _,Ag (by simp),rfl,hN,?_,(Bg _ _).alloc (Av _) _⟩;simpa [Bu]using hown
 case round=>
  obtain⟨k,x,hk,hx,rfl,hx1,ho,hbw⟩:=hrel;have hh:Hid (N/2^(k+1)=x/2):=Ag (by rw[Nat.pow_succ,<-Nat.div_div_eq_div_mul,hx.out]);have hbt:bit N k=((x:Int)%2==1):=by
   unfold bit;rw[hx.out,Bool.eq_iff_iff];simp;omega
  have HB:=Ag hbt;clear hbt
  go_wp2_with (at_builtin;refine wpList_append_own _ rfl _ _ 28 rfl w.heap.size 4 i0 (.bool false) 1 1 Tryz.underlying28 hi hz0 hz1 hz2 rfl (by decide) _ _ _ rfl (ho.alloc _) ⟨wr.heap.size,0,none⟩ 1 1 [.bool ((x:Int)%2==1)] rfl rfl ?c1 ?c2 ?c3 ?c4 ?c5 ?_)
  case c1=>
   intro j u hj
   match j,hj with
   | 0,hj=>simp at hj;subst hj;simp[Addr.add]
  case c2=>intro u hu;simp at hu;subst hu;rfl
  case c3=>unfold maxLen;omega
  case c4=>omega
  case c5=>have:=hbw.size;simp;omega
  .intro v' w1 ho' hg _;have hx0:0<x:=by assumption
   have hkl:k<Al N:=dE (by rw[hx.out];exact hx0);have hbw1:Below w.heap.size w w1:=(hbw.alloc hbw.size _).grown hg (by have:=hbw.size;simp;omega) (fun j hj=>(ho.lt j hj).1);have ho1:w1.ownsRow w.heap.size 4 1 v' (k+1) ((Bu N (k+1)).map Value.bool):=by
    rw[Dz,List.map_append,HB.out];exact ho'
   clear ho' hg ho;go_wp2;go_roundw
   case rel=>exact⟨k+1,x/2,by omega,hh,by simp[Int.natCast_ediv],by omega,ho1,hbw1⟩
   case measure=>simp[intOf];omega
  .have hx0:¬0<x:=by assumption
   have hkl:k=Al N:=mI (by rw[hx.out];omega) hk;subst hkl;obtain⟨q,d,rfl,hrow,hq⟩:=Fd.of_owns ho;go_ret;exact⟨q,Al N,d,rfl,hrow,hbw,hq⟩
def Da (bs:List Nat)(B:Nat)(v:Value)(w:World):Prop:=∃q n d,v=.slice q n d/\Row w .u8 q n d bs/\Eh B q
theorem Da.below {bs:List Nat}{B:Nat}{v:Value}{w w':World}(h:Da bs B v w)(hb:Below w.heap.size w w'):Da bs B v w' :=
 let ⟨q,n,d,h1,h2,h3⟩:=h
 ⟨q,n,d,h1,h2.below hb,h3⟩
theorem Pp (w:World)(p:Option Addr)(n c N:Nat)(h:Ah w p n c N)(hn:n<1000000)(hN:Al N<=1000000) :
  Calls Tryz.prog 96 #[.agg #[.slice p n c]] w fun e w'=>∃v,e=.returned v/\Da (Do N (Aw N)) w.heap.size v w'/\Below w.heap.size w w':=by
 have hbx:=Cu.mk1 w (.slice p n c) 36;have hbs:Aw N<=1000000:=by unfold Aw;omega
 go_enter Tryz.func96,Tryz.ntmps96;go_wp2;refine Aj (by kernel_rfl) (by kernel_rfl)
  [some (.agg #[.slice p n c]),some (.agg #[.slice p n c]),none,none,none,none,none,none,none]
  [false,false,true,true,true,true,true,true,true] rfl
  (fun w1 w2=>Below w1.heap.size w1 w2)
  (fun _ w'=>Cu w w' (.slice p n c))
  (fun i v w'=>match i with
   | 2=>v=.int .i64 (Aw N:Nat)
   | 3|4=>∃u,v=.tuple #[u,.int .i64 0]/\Da (Do N (Aw N)) w.heap.size u w'
   | 5|7=>Da (Do N (Aw N)) w.heap.size v w'
   | _=>v=.int .i64 0)
  ?_ (hbx.below (Bg _ _).drew (Av _)) ?_ ?_
 .intro i v w1 w2 hf hb;split at hf
  .exact hf
  .exact hf.imp fun u h=>⟨h.1,h.2.below hb⟩
  .exact hf.imp fun u h=>⟨h.1,h.2.below hb⟩
  .exact hf.below hb
  .exact hf.below hb
  .exact hf
 .simp only[Bh,Nat.reduceAdd];refine⟨?_,?_,?_,?_,?_,?_,?_,?_,?_,trivial⟩
  case refine_3=>
   intro D sp w' hD hW hdp hbx'
   (with_reducible refine Ab (w1:=w') (f := 150) (args:=#[.agg #[.slice p n c]]) ?_ ?_ ?_)
   .simp only[Region.wanted]
   .simp[Act.eval,Act.put,go_sem]
   .refine(Ji w' p n c N (h.below hbx'.bel) hn (by omega)).mono ?_;rintro e w2 ⟨rfl,hb⟩;exact⟨_,rfl,hb,rfl,hbx'.later hb⟩
  case refine_4=>
   intro D sp w' hD hW hdp hbx';have h2:sp 2=.int .i64 (Aw N:Nat):=(hdp 2 (mq (by kernel_rfl))).2
   (with_reducible refine Ab (w1:=w') (f := 149) (args:=#[.agg #[.slice p n c],.int .i64 (Aw N:Nat)]) ?_ ?_ ?_)
   .simp only[Region.wanted]
   .simp[Act.eval,Act.put,go_sem,h2]
   .refine(Zl w' p n c N (Aw N:Nat) (h.below hbx'.bel) hn (by omega) (by omega) (by omega)).mono ?_;rintro e w2 ⟨q,m,d,k,rfl,hrow,hk,hb,hq⟩;have e1:¬((Aw N:Nat):Int)<0:=by omega
    have e2:¬((Aw N:Nat):Int)<Aw N:=by omega
    rw[if_neg e1,if_neg e2]at hrow hk
    rw[hk];exact⟨_,rfl,hb,⟨_,rfl,q,m,d,rfl,hrow,hq.mono hbx'.bel.size⟩,hbx'.later hb⟩
  case refine_5=>
   intro D sp w' hD hW hdp hbx';have hx:∃u,sp 3=.tuple #[u,.int .i64 0]/\Da (Do N (Aw N)) w.heap.size u w':=(hdp 3 (mq (by kernel_rfl))).2
   (with_reducible refine Az hx fun u hu=>?_)
   have h1:=hu.1;have h2:=hu.2
   (with_reducible refine Ai (w1:=w') (v:=.tuple #[u,.int .i64 0]) ?_ ?_ ?_)
   .simp only[Region.wanted]
   .simp[execOp,Act.eval,Act.put,go_sem,h1]
   .exact⟨Bg _ _,⟨u,rfl,h2⟩,hbx'⟩
  case refine_6=>
   intro D sp w' hD hW hdp hbx';have hx:∃u,sp 4=.tuple #[u,.int .i64 0]/\Da (Do N (Aw N)) w.heap.size u w':=(hdp 4 (mq (by kernel_rfl))).2
   (with_reducible refine Az hx fun u hu=>?_)
   have h1:=hu.1;have h2:=hu.2
   (with_reducible refine Ai (w1:=w') (v:=u) ?_ ?_ ?_)
   .simp only[Region.wanted]
   .simp[execOp,Act.eval,Act.put,go_sem,h1]
   .exact⟨Bg _ _,h2,hbx'⟩
  case refine_7=>
   intro D sp w' hD hW hdp hbx';have hx:∃u,sp 4=.tuple #[u,.int .i64 0]/\Da (Do N (Aw N)) w.heap.size u w':=(hdp 4 (mq (by kernel_rfl))).2
   (with_reducible refine Az hx fun u hu=>?_)
   have h1:=hu.1;have h2:=hu.2
   (with_reducible refine Ai (w1:=w') (v:=.int .i64 0) ?_ ?_ ?_)
   .simp only[Region.wanted]
   .simp[execOp,Act.eval,Act.put,go_sem,h1]
   .exact⟨Bg _ _,rfl,hbx'⟩
  case refine_8=>
   intro D sp w' hD hW hdp hbx';have h2:Da (Do N (Aw N)) w.heap.size (sp 5) w':=(hdp 5 (mq (by kernel_rfl))).2
   (with_reducible refine Ai (w1:=w') (v:=sp 5) ?_ ?_ ?_)
   .simp only[Region.wanted]
   .simp[execOp,Act.eval,Act.put,go_sem]
   .exact⟨Bg _ _,h2,hbx'⟩
  case refine_9=>
   intro D sp w' hD hW hdp hbx';have h2:sp 6=.int .i64 0:=(hdp 6 (mq (by kernel_rfl))).2
   (with_reducible refine Ai (w1:=w') (v:=.int .i64 0) ?_ ?_ ?_)
   .simp only[Region.wanted]
   .simp[execOp,Act.eval,Act.put,go_sem,h2]
   .exact⟨Bg _ _,rfl,hbx'⟩
  all_goals
   intro D sp w' hD hW hdp hbx';have c0:=hbx'.c0;simp[asked,Region.wanted,Oper.gives,execOp,Act.eval,Act.put,go_sem,c0]
 .intro sp w' hsp hbx';have h7:Da (Do N (Aw N)) w.heap.size (sp 7) w':=hsp 7 rfl;clear hsp;simp only[Am,Nat.reduceAdd];generalize sp 7=u at *
  go_simp
  go_wp2;go_ret;exact⟨_,rfl,h7,hbx'.bel⟩
theorem eQ (V n:Nat):Dv V (n+1)=(V%256)::Dv (V/256) n:=by
 simp[Dv,List.range_succ_eq_map,Function.comp_def,Gg,Ic,Nat.div_div_eq_div_mul]
theorem dA:∀(xs:List Nat),Be xs->Dv (le xs) xs.length=xs
 | [],_=>by simp[Dv]
 | x::xs,h=>by
  have hx:x<256:=h x (by simp);have e:=dA xs (fun y hy=>h y (by simp[hy]));rw[List.length_cons,eQ];simp only[le];rw[show (x+256*le xs)%256=x by omega,show (x+256*le xs)/256=le xs by omega,e]
theorem iV:∀(xs:List Nat) (q d:Nat),q<xs.length->le (xs.set q (xs.getD q 0+d))=le xs+B8 q*d
 | x::xs,0,d,_=>by simp[le,Ic];omega
 | x::xs,q+1,d,h=>by
  have e:=iV xs q d (by simpa using h);simp only[List.set_cons_succ,le,List.getD_cons_succ,Gg];rw[e,Nat.mul_add,Nat.mul_assoc];omega
theorem Yf {V n j:Nat}(h:j<n):(Dv V n)[j]? = some (V/B8 j%256):=by simp[Dv,h]
theorem eP {V n j:Nat}(h:j<n):(Dv V n).getD j 0=V/B8 j%256:=by rw[Dd,Yf h];rfl
theorem Yg {M k n:Nat}(hM:M<2^k)(hk:k/8<n) :
  M/B8 (k/8)%256<2^(k%8)/\(Dv M n).set (k/8) (M/B8 (k/8)%256+2^(k%8))=Dv (M+2^k) n:=by
 have e2:2^k=B8 (k/8)*2^(k%8):=by
  rw[In,<-Nat.pow_add,Nat.div_add_mod]
 have hlt:M/B8 (k/8)<2^(k%8):=by
  rw[Nat.div_lt_iff_lt_mul (cQ _),Nat.mul_comm,<-e2];exact hM
 have hp:2^(k%8)<=2^7:=Nat.pow_le_pow_right (by omega) (by omega);have hmod:M/B8 (k/8)%256<2^(k%8):=Nat.lt_of_le_of_lt (Nat.mod_le _ _) hlt;refine⟨hmod,?_⟩;have hset:=iV (Dv M n) (k/8) (2^(k%8)) (by rw[Ci];exact hk);rw[eP hk,<-e2]at hset
 have hM8:M<B8 n:=by
  rw[In];exact Dq hM (Nat.pow_le_pow_right (by omega) (by omega))
 rw[Vr,Nat.mod_eq_of_lt hM8]at hset
 have hb:Be ((Dv M n).set (k/8) (M/B8 (k/8)%256+2^(k%8))):=by
  intro y hy;rcases List.mem_or_eq_of_mem_set hy with h|rfl
  .exact Mm M n y h
  .omega
 have:=dA _ hb;rw[hset,List.length_set,Ci]at this
 exact this.symm
theorem jT {M k n j:Nat}(hM:M<2^k)(hk:k/8<n)(hj:j=n-1-k/8) :
  (Do M n).set j (M/B8 (k/8)%256+2^(k%8))=Do (M+2^k) n:=by
 subst hj;have:=Pl (Dv M n) (k/8) (M/B8 (k/8)%256+2^(k%8)) (by rw[Ci];exact hk);rw[Ci]at this
 unfold Do;rw[this,(Yg hM hk).2]
theorem jS {M n j q:Nat}(hq:q<n)(hj:j=n-1-q):(Do M n)[j]? = some (M/B8 q%256):=by
 subst hj;unfold Do;rw[List.getElem?_reverse (by rw[Ci];omega),Ci,show n-1-(n-1-q)=q by omega,Yf hq]
theorem fS (n:Nat):Do 0 n=List.replicate n 0:=by
 unfold Do Dv;apply List.ext_getElem (by simp);intro i h1 h2;simp
theorem Lc (M n:Nat):(Do M n).length=n:=by simp[Do,Ci]
def mQ (N s:Nat)(w:World)(e:Ending)(w':World):Prop:=∃v,e=.returned (.tuple #[v,.bool (decide (Aw N<=s))]) /\
 Da (if Aw N<=s then Do N s else []) w.heap.size v w'/\Below w.heap.size w w'
theorem Vd (w:World)(p:Option Addr)(n c N s:Nat)(h:Bi w p n c N)(hs:s<=1000000)(hN:Al N<=1000000000) :
  Calls Tryz.prog 95 #[.slice p n c,.int .i64 s] w (mQ N s w):=by
 have hl:n=Al N:=by have:=h.len;rwa [Ba]at this
 by_cases h2:s<Aw N
 .have hd:decide (Aw N<=s)=false:=by simp;omega
  have h3:(s:Int)<((n:Int)+7)/8:=by unfold Aw at h2;omega
  have hw7:IntKind.i64.wrap ((n:Int)+7)=(n:Int)+7:=IntWalk.i64_in _ (by omega);have hw8:IntKind.i64.wrap (((n:Int)+7)/8)=((n:Int)+7)/8:=IntWalk.i64_in _ (by omega);have hw9:wrap64 (((n:Int)+7).tdiv 8)=((n:Int)+7)/8:=by
   rw[Int.tdiv_eq_ediv_of_nonneg (by omega)];exact IntWalk.wrap64_in _ (by omega)
  have H2:=Ag h2;have HD:=Ag hd;clear hl h2 hd;go_enter Tryz.func95,Tryz.ntmps95;go_wp2
  go_ret2
  refine⟨.slice none 0 0,by simp[HD.out],?_,Bg _ _⟩;rw[if_neg (by have:=H2.out;omega)];exact⟨none,0,0,rfl,Row.nil _ _,Eh.none _⟩
 .have hd:decide (Aw N<=s)=true:=by simp;omega
  have hmk:=Vo s (by omega);have hsn:n<=8*s:=by unfold Aw at h2;omega
  have h3:¬(s:Int)<((n:Int)+7)/8:=by omega
  have hw7:IntKind.i64.wrap ((n:Int)+7)=(n:Int)+7:=IntWalk.i64_in _ (by omega);have hw8:IntKind.i64.wrap (((n:Int)+7)/8)=((n:Int)+7)/8:=IntWalk.i64_in _ (by omega);have H2:=Ag h2;have HD:=Ag hd;have HL:=Ag hl;have hn9:n<=1000000000:=by omega
  clear hl h2 hd;go_enter Tryz.func95,Tryz.ntmps95;go_wp2
  go_loopw [19] (fun i wr=>∃k:Nat,k<=n/\i=.int .i64 k/\w.heap.size<wr.heap.size/\Below w.heap.size w wr/\Br wr w.heap.size 5 .u8 (Do (N%2^k) s)) (fun i _=>n-(intOf i).toNat)
  case atStart=>
   refine⟨0,by omega,rfl,by simp,(Bg _ _).alloc (Av _) _,?_⟩;have:=Br.zeros w 5 .u8 s;rw[Nat.pow_zero,Nat.mod_one,fS];exact this
  case round=>
   obtain⟨k,hk,rfl,hsz,hbw,hblk⟩:=hrel
   by_cases hkn:k<n
   .obtain⟨b,off,rfl,hb,hc⟩:=h.pos (by omega);obtain⟨x,hx⟩:∃x,bit N k=x:=⟨_,rfl⟩
    have hci:wr.cell? ⟨b,off+k,none⟩=some (.bool x):=by
     rw[(By hbw).1 _ _ hb];exact hc k x (by rw[Cp (by rw[<-HL.out];exact hkn),hx])
    have HX:=Ag hx;clear hc hx;go_wp2
    .have hxt:x=true:=by assumption
     have HB:Hid (N%2^(k+1)=N%2^k+2^k):=Ag (by rw[Lu,HX.out,if_pos hxt]);have hMk:N%2^k<2^k:=Nat.mod_lt _ (Nat.pow_pos (by omega));obtain⟨q,hq⟩:∃q,k/8=q:=⟨_,rfl⟩
     obtain⟨r,hr⟩:∃r,k%8=r:=⟨_,rfl⟩
     have hqs:q<s:=by omega
     obtain⟨j,hj⟩:∃j,s-1-q=j:=⟨_,rfl⟩
     obtain⟨z,hz⟩:∃z,2^r=z:=⟨_,rfl⟩
     have hset:=jT (n:=s) hMk (by omega) (j:=j) (by omega);have hget:=jS (M:=N%2^k) hqs hj.symm;have hlt:=(Yg (n:=s) hMk (by omega)).1;rw[hq,hr]at hset hlt
     obtain⟨d,hd⟩:∃d,N%2^k/B8 q%256=d:=⟨_,rfl⟩
     rw[hd]at hset hget hlt
     rw[hz]at hset hlt
     have hr8:r<8:=by omega
     have hz8:z<=128:=by rw[<-hz];exact Nat.pow_le_pow_right (show 0<2 by omega) (show r<=7 by omega)
     have t1:IntKind.i64.wrap ((k:Int)/8)=(q:Int):=by rw[IntWalk.i64_in _ (by omega)];omega
     have t2:(k:Int).tmod 8=(r:Int):=by rw[Int.tmod_eq_emod_of_nonneg (by omega)];omega
     have t4:IntKind.i64.wrap ((s:Int)-1)=(s:Int)-1:=IntWalk.i64_in _ (by omega);have t5:IntKind.i64.wrap ((s:Int)-1-q)=(j:Nat):=by
      rw[IntWalk.i64_in _ (by omega)];omega
     have t6:(j:Int)<s:=by omega
     have t7:j<s:=by omega
     have t8:IntKind.u8.wrap ((d:Int)+z)=(d:Int)+z:=IntWalk.u8_in _ (by omega);have t9:IntKind.u8.wrap ((2:Int)^r)=z:=by
      rw[show ((2:Int)^r)=(z:Nat) by rw[<-hz,Int.natCast_pow];rfl];exact IntWalk.u8_in _ (by omega)
     clear hq hr hd hj hMk;have HJ:=Ag hz;clear hz;refine Aj (by kernel_rfl) (by kernel_rfl)
      [some (.slice (some ⟨w.heap.size,0,none⟩) s s),some (.int .i64 s),some (.int .i64 ((s:Int)-1)),some (.int .i64 k),some (.int .i64 (q:Nat)),some (.int .i64 (j:Nat)),some (.pointer (some ⟨w.heap.size,j,none⟩)),some (.int .u8 (d:Nat)),
       some (.int .i64 k),some (.int .i64 (r:Nat)),some (.int .u8 (z:Nat)),some (.int .u8 (d+z:Nat)),some (.pointer (some ⟨w.heap.size,j,none⟩)),none]
      [false,false,false,false,false,false,false,false,false,false,false,false,false,true] rfl
      (fun _ _=>True)
      (fun D w'=>Below w.heap.size w w'/\w.heap.size<w'.heap.size/\Br w' w.heap.size 5 .u8 (if D 13 then Do (N%2^k+2^k) s else Do (N%2^k) s))
      (fun _ _ _=>True)
      (fun _ _ _ _ h _=>h) ⟨hbw.trans ((Bg _ _).drew.mono (Av _)),hsz,hblk⟩ ?_ ?_
     .simp only[Bh,Nat.reduceAdd];refine⟨?_,?_,?_,?_,?_,?_,?_,?_,?_,?_,?_,?_,?_,?_,trivial⟩
      case refine_8=>
       intro D sp w' hD hW hdp ⟨hb',hsz',hblk'⟩;have h13:D 13=false:=hW 13 (mq (by kernel_rfl));rw[h13]at hblk'
       simp only[Bool.false_eq_true,if_false]at hblk';have hcl:w'.cell? ⟨w.heap.size,j,none⟩=some (.int .u8 (d:Nat)):=hblk'.cell hget;simp[asked,Region.wanted,Oper.gives,execOp,Act.eval,Act.put,go_sem,hcl]
      case refine_14=>
       intro D sp w' hD hW hdp ⟨hb',hsz',hblk'⟩;rw[hD]at hblk'
       simp only[Bool.false_eq_true,if_false]at hblk';have hcl:w'.cell? ⟨w.heap.size,j,none⟩=some (.int .u8 (d:Nat)):=hblk'.cell hget;have hfr:=hblk'.free j
       (with_reducible refine Ar (w1:=w'.setCell ⟨w.heap.size,j,none⟩ (.int .u8 (d+z:Nat))) ?_ ?_ ?_)
       .simp only[Region.wanted]
       .simp[execOp,Act.eval,Act.put,go_sem,hcl,hfr]
       .refine⟨trivial,trivial,hb'.setCell (Av _) _,by simpa using hsz',?_⟩;simp only[decide_true,Bool.or_true,if_true];rw[<-hset];exact hblk'.set _ _
      all_goals
       intro D sp w' hD hW hdp ⟨hb',hsz',hblk'⟩;simp[asked,Region.wanted,Oper.gives,execOp,Act.eval,Act.put,go_sem,t1,t2,t4,t5,t6,t8,t9]
     .intro sp w' hsp ⟨hb',hsz',hblk'⟩;have hblk2:Br w' w.heap.size 5 .u8 (Do (N%2^k+2^k) s):=hblk';clear hblk' hsp t1 t2 t4 t5 t6 t8 t9;simp only[Am,Nat.reduceAdd]
      go_simp
      go_wp2;go_roundw
      case rel=>exact⟨k+1,by omega,by go_num,hsz',hb',by rw[HB.out];exact hblk2⟩
      case measure=>simp[intOf];omega
    .have hxt:x=false:=by assumption
     have HB:Hid (N%2^(k+1)=N%2^k):=Ag (by rw[Lu,HX.out,if_neg (by simp[hxt]),Nat.add_zero]);go_roundw
     case rel=>exact⟨k+1,by omega,by go_num,hsz,hbw,by rw[HB.out];exact hblk⟩
     case measure=>simp[intOf];omega
   .have HK:Hid (k=n):=Ag (by omega);go_wp2
    go_ret2
    refine⟨.slice (some ⟨w.heap.size,0,none⟩) s s,by simp[HD.out],?_,hbw⟩;rw[if_pos (by have:=H2.out;omega)];have e:N%2^k=N:=Nat.mod_eq_of_lt ((Bc N k).1 (by rw[HK.out,HL.out];exact Av _));rw[e]at hblk
    exact⟨_,s,s,rfl,hblk.row (by rw[Lc]) (Av _) (by omega),fun q hq=>by cases hq;exact Av _⟩
end Go.Proofs.YtnbmfaihlefgfaaGreatDoor
