/- The document's number of bytes. -/
import Derived.Lib.Tables
import Derived.Lib.BitFns
import Derived.Test.YtokhckjemidbpaaGreatDoorNatN
set_option maxRecDepth 1000000
set_option maxHeartbeats 16000000
set_option linter.all false
namespace Go.Proofs.YtokhckjemidbpaaGreatDoor
open Go Go.RowKit Go.Proofs.YtokhckjemidbpaaGreatDoor.Flow
theorem Uj:(⟨((([0,1,2,2,3,3,3,3,4,4,4,4,4,4,4,4,5,5,5,5,5,5,5,5,5,5,5,5,5,5,5,5,6,6,6,6,6,6,6,6,6,6,6,6,6,6,6,6,6,6,6,6,6,6,6,6,6,6,6,6,6,6,6,6]:List UInt8).append [7,7,7,7,7,7,7,7,7,7,7,7,7,7,7,7,7,7,7,7,7,7,7,7,7,7,7,7,7,7,7,7,7,7,7,7,7,7,7,7,7,7,7,7,7,7,7,7,7,7,7,7,7,7,7,7,7,7,7,7,7,7,7,7]).append (([8,8,8,8,8,8,8,8,8,8,8,8,8,8,8,8,8,8,8,8,8,8,8,8,8,8,8,8,8,8,8,8,8,8,8,8,8,8,8,8,8,8,8,8,8,8,8,8,8,8,8,8,8,8,8,8,8,8,8,8,8,8,8,8]:List UInt8).append [8,8,8,8,8,8,8,8,8,8,8,8,8,8,8,8,8,8,8,8,8,8,8,8,8,8,8,8,8,8,8,8,8,8,8,8,8,8,8,8,8,8,8,8,8,8,8,8,8,8,8,8,8,8,8,8,8,8,8,8,8,8,8,8])).toArray⟩:ByteArray)=Lib.len8tab:=by kernel_rfl
theorem Zr:∀n:Fin 256,Lib.len8 (n.val:Int)=(Ay n.val:Int):=by decide +kernel
theorem Oa (y:Int)(h0:0<=y)(h1:y<=255)(h:y.toNat<Lib.len8tab.size):((Lib.len8tab[y.toNat]'h).toNat:Int)=(Ay y.toNat:Nat):=by
 have e:=Zr ⟨y.toNat,by omega⟩;simp only[Int.toNat_of_nonneg h0]at e;rw[<-e];unfold Lib.len8;rw[getElem?_pos Lib.len8tab y.toNat h];rfl
theorem Me (k:Nat)(m n:Nat)(hk:k<=24)(hm:Ay m<=64)(e:Ay n=k+Ay m):wrap64 ((k:Int)+wrap64 (Ay m:Nat))=(Ay n:Nat):=by
 rw[e,IntWalk.wrap64_in (Ay m:Nat) ⟨by omega,by omega⟩,IntWalk.wrap64_in _ ⟨by omega,by omega⟩];omega
theorem Vv (m:Nat)(hm:Ay m<=64):wrap64 (wrap64 (Ay m:Nat))=(Ay m:Nat):=by
 rw[IntWalk.wrap64_in (Ay m:Nat) ⟨by omega,by omega⟩,IntWalk.wrap64_in _ ⟨by omega,by omega⟩]
theorem Zs (x:Int)(w:World)(h0:0<=x)(hx:x<=4294967295) :
  Calls Tryz.prog 220 #[.int .u32 x] w fun e w'=>e=.returned (.int .i64 (Ay x.toNat:Nat))/\w=w':=by
 have hs:Lib.len8tab.size=256:=Lib.len8tab_size;go_enter Tryz.func220,Tryz.ntmps220;rw[Uj];go_wp2
 all_goals first
  | (go_ret;refine⟨congrArg Ending.returned (congrArg (Value.int IntKind.i64) ?_),rfl⟩)
  | (exfalso;omega)
 all_goals first
  | (rw[Oa (x/65536/256) (by omega) (by omega)];exact Me 24 _ _ (by omega) (Kc (by omega)) (by rw[show (x/65536/256).toNat=x.toNat/2^24 by omega];exact Hz _ _ (by omega)))
  | (rw[Oa (x/65536) (by omega) (by omega)];exact Me 16 _ _ (by omega) (Kc (by omega)) (by rw[show (x/65536).toNat=x.toNat/2^16 by omega];exact Hz _ _ (by omega)))
  | (rw[Oa (x/256) (by omega) (by omega)];exact Me 8 _ _ (by omega) (Kc (by omega)) (by rw[show (x/256).toNat=x.toNat/2^8 by omega];exact Hz _ _ (by omega)))
  | (rw[Oa x (by omega) (by omega)];exact Vv _ (Kc (by omega)))
theorem Ni (x:Nat)(w:World)(hx:x<4294967296) :
  Calls Tryz.prog 220 #[.int .u32 x] w fun e w'=>e=.returned (.int .i64 (Ay x:Nat))/\w=w':=by
 have:=Zs x w (by omega) (by omega);simpa using this
theorem Xq {ws:List Nat}{x:Nat}(hw:Words (ws++[x]))(hx:x≠0):Ay (val (ws++[x]))=32*ws.length+Ay x:=by
 rw[Da];have hb:Al ws.length=2^(32*ws.length):=by unfold Al;rw[show (4294967296:Nat)=2^32 from rfl,<-Nat.pow_mul]
 have h1:val ws<Al ws.length:=Words.lt fun y hy=>hw y (by simp[hy])
 have hd:(val ws+Al ws.length*x)/2^(32*ws.length)=x:=by
  rw[<-hb,Nat.add_mul_div_left _ _ (Fs _),Nat.div_eq_of_lt h1,Nat.zero_add]
 have:=Hz (val ws+Al ws.length*x) (32*ws.length) (by rw[hd];omega);rw[hd]at this
 exact this
theorem Dy (w:World)(p:Option Addr)(n c N:Nat)(h:Ah w p n c N)(hn:n<1000000) :
  Calls Tryz.prog 184 #[.agg #[.slice p n c]] w fun e w'=>e=.returned (.int .i64 (Ay N:Nat))/\Below w.heap.size w w':=by
 have hbx:=Cw.mk1 w (.slice p n c) 37
 by_cases h0:n=0
 .have hN:N=0:=h.zero.1 h0;subst hN;have hd:decide (n=0)=true:=by simpa using h0
  clear h0;go_enter Tryz.func184,Tryz.ntmps184
  go_wp2_with fail
  refine(Dh _ p n c).mono ?_;rintro e w1 ⟨rfl,hb1⟩;go_wp2;go_ret;exact⟨rfl,(hbx.later hb1).bel⟩
 .obtain⟨m,rfl⟩:∃m,n=m+1:=⟨n-1,by omega⟩
  obtain⟨ws,h1,h2,h3,h4⟩:=h.ex;have hl:=h1.len;obtain⟨xs,x,rfl⟩:∃xs x,ws=xs++[x]:=by
   rcases List.eq_nil_or_concat ws with rfl|⟨xs,x,h⟩
   .simp at hl
   .exact⟨xs,x,by simpa using h⟩
  have hxm:xs.length=m:=by simp at hl;omega
  have hx0:x≠0:=by simpa using h3
  have hx1:x<4294967296:=h2 x (by simp);have hbl:=Xq h2 hx0;rw[h4,hxm]at hbl
  have HBL:=Af hbl;have hxb:Ay x<=32:=by rw[Cj];exact hx1
  obtain⟨b,off,rfl,hb,hc⟩:=h1.pos (by omega);have hci:∀w',Below w.heap.size w w'->w'.cell? ⟨b,off+m,none⟩=some (.int .u32 (x:Nat)):=fun w' hb'=>by
   rw[(Cd hb').1 _ _ hb];exact hc m x (by rw[<-hxm];simp)
  have hd:decide (m+1=0)=false:=by simp
  clear hc hl h4 hbl hxm;go_enter Tryz.func184,Tryz.ntmps184
  go_wp2_with fail
  refine(Dh _ _ (m+1) c).mono ?_;rintro e w1 ⟨rfl,hb1⟩;have hbx1:=hbx.later hb1;have c0:=hbx1.c0;have hcx:=hci w1 hbx1.bel;clear hci
  go_wp2_with fail
  refine(Ni x _ hx1).mono ?_;rintro e w2 ⟨rfl,rfl⟩;go_wp2;go_ret;refine⟨?_,hbx1.bel⟩;rw[HBL.out];exact congrArg (fun z=>Ending.returned (.int .i64 z)) (by omega)
def Dg (N n:Nat):List Nat:=(List.range n).map fun i=>N/B8 i%256
def Bf (N n:Nat):List Nat:=(Dg N n).reverse
def Ao (N:Nat):Nat:=(Ay N+7)/8
theorem Cc (N n:Nat):(Dg N n).length=n:=by simp[Dg]
theorem Mm (N n:Nat):Dg N (n+1)=Dg N n++[N/B8 n%256]:=by simp[Dg,List.range_succ]
theorem Ga (N n:Nat):Au (Dg N n):=by
 intro x hx;simp only[Dg,List.mem_map]at hx;obtain⟨j,_,rfl⟩:=hx;exact Nat.mod_lt _ (by omega)
theorem Jm (N:Nat):N<B8 (Ao N):=by
 rw[Ha];refine(Cj N _).1 ?_;unfold Ao;omega
theorem Hj {N n:Nat}:Ao N<=n ↔ N<B8 n:=by
 rw[Ha,<-Cj];unfold Ao;omega
theorem cN {N k n:Nat}(h:N<B8 k)(hk:k<=n):Dg N k++List.replicate (n-k) 0=Dg N n:=by
 obtain⟨d,rfl⟩:∃d,n=k+d:=⟨n-k,by omega⟩
 rw[Nat.add_sub_cancel_left];clear hk
 induction d with
 | zero=>simp
 | succ d ih=>
  rw[List.replicate_succ',<-List.append_assoc,ih,<-Nat.add_assoc,Mm]
  congr 2
  have:B8 k<=B8 (k+d):=Fr (by omega);rw[Nat.div_eq_of_lt (by omega)]
theorem Od (N:Nat):∀n,le (Dg N n)=N%B8 n
 | 0=>by simp[Dg,le,Gs,Nat.mod_one]
 | n+1=>by rw[Mm,Yj,Cc,Od N n,Fa,Nat.mul_comm 256,Nat.mod_mul]
theorem Nd (l:List Nat)(k x:Nat)(hk:k<l.length):l.reverse.set (l.length-1-k) x=(l.set k x).reverse:=by
 apply List.ext_getElem (by simp);intro i h1 h2;simp only[List.length_set,List.length_reverse]at h1;rw[List.getElem_set,List.getElem_reverse,List.getElem_reverse,List.getElem_set];simp only[List.length_set]
 by_cases h:l.length-1-k=i
 .rw[if_pos h,if_pos (by omega)]
 .rw[if_neg h,if_neg (by omega)]
theorem Ta {N q r:Nat}(hr:r<4):N/Al q%4294967296/B8 r%256=N/B8 (4*q+r)%256:=by
 have e:(4294967296:Nat)=B8 r*(256*B8 (3-r)):=by
  rw[<-Fa,<-Yb,show r+(3-r+1)=4 by omega];rfl
 rw[e,Nat.mod_mul_right_div_self,Nat.mod_mul_right_mod,Nat.div_div_eq_div_mul,Yb,Kf]
theorem Hq (w:World)(p:Option Addr)(n c N:Nat)(h:Ah w p n c N)(hn:n<1000000)(hN:Ay N<=1000000000) :
  Calls Tryz.prog 152 #[.agg #[.slice p n c]] w fun e w'=>e=.returned (.int .i64 (Ao N:Nat))/\Below w.heap.size w w':=by
 have hbx:=Cw.mk1 w (.slice p n c) 37;obtain⟨k,hk⟩:∃k,Ay N=k:=⟨_,rfl⟩
 have HK:Hid (Ao N=(k+7)/8):=by rw[<-hk];rfl
 go_enter Tryz.func152,Tryz.ntmps152
 go_wp2_with fail
 refine(Dy _ p n c N (h.below hbx.bel) hn).mono ?_;rintro e w1 ⟨rfl,hb1⟩;rw[hk]at hN
 simp only[hk];clear hk;go_wp2;go_ret;refine⟨?_,(hbx.later hb1).bel⟩;rw[HK.out];exact congrArg (fun z=>Ending.returned (.int .i64 z)) (by omega)
def Lb (N:Nat)(size:Int)(w:World)(e:Ending)(w':World):Prop :=
 ∃q n d k,e=.returned (.tuple #[.slice q n d,.int .i64 k])/\Row w' .u8 q n d (if size<0 then [] else if size<Ao N then [] else Bf N size.toNat) /\
  (k=if size<0 then 1 else if size<Ao N then 2 else 0)/\Below w.heap.size w w'/\El w.heap.size q
theorem Rk (w:World)(p:Option Addr)(n c N s:Nat)(h:Ah w p n c N)(hn:n<1000000)(hN:Ay N<=1000000000)(hs:(s:Int)<=1000000)(h2:¬(s:Int)<Ao N) :
  Calls Tryz.prog 122 #[.agg #[.slice p n c],.int .i64 s] w fun e w'=>∃g,e=.returned (.tuple #[.slice (some ⟨g,0,none⟩) s s,.int .i64 0])/\Bi w' g 5 .u8 (Bf N s)/\Below w.heap.size w w'/\w.heap.size<=g:=by
 have hbx:=Cw.mk1 w (.slice p n c) 37;have h1:¬(s:Int)<0:=by omega
 obtain⟨m,hm⟩:∃m,Ao N=m:=⟨_,rfl⟩
 have HM:Hid (∀k,m<=k ↔ N<B8 k):=fun k=>by rw[<-hm];exact Hj
 rw[hm]at h2
 obtain⟨ws,r1,r2,r3,r4⟩:=h.ex;have hmk:=Sg s (by omega);have hms:m<=s:=by omega
 have HR4:=Af r4;go_enter Tryz.func122,Tryz.ntmps122
 go_wp2_with fail
 refine(Hq _ p n c N (h.below hbx.bel) hn hN).mono ?_;rintro e w1 ⟨rfl,hb1⟩;simp only[hm];clear hm r4;have hbx1:=hbx.later hb1;have hz1:w.heap.size<w1.heap.size:=hbx1.size;go_wp2
 go_loopw [24] (fun i wr=>∃k:Nat,k<=m/\i=.int .i64 k/\Cw w wr (.slice p n c)/\w1.heap.size<wr.heap.size/\Below w1.heap.size w1 wr/\Bi wr w1.heap.size 5 .u8 ((Dg N k++List.replicate (s-k) 0).reverse)) (fun i _=>m-(intOf i).toNat)
 case atStart=>
  refine⟨0,by omega,rfl,hbx1.alloc _,by simp,(Bd _ _).alloc (Av _) _,?_⟩;have:=Bi.zeros w1 5 .u8 s;simpa [Dg]using this
 case round=>
  obtain⟨k,hk,rfl,hbr,hsz,hbw,hblk⟩:=hrel;have c0:=hbr.c0
  by_cases hkm:k<m
  .have hkn:k/4<n:=by
    rcases Nat.lt_or_ge (k/4) n with h3|h3
    .exact h3
    .exfalso;have h4:=r2.lt;rw[<-r1.len]at h4
     have h5:N<B8 k:=by
      have:Al n<=B8 k:=by rw[<-Kf];exact Fr (by omega)
      have:=HR4.out;omega
     have h6:=(HM.out k).2 h5;omega
   obtain⟨b,off,rfl,hb,hc⟩:=r1.pos (by omega);obtain⟨x,hx⟩:∃x,ws.getD (k/4) 0=x:=⟨_,rfl⟩
   have hci:wr.cell? ⟨b,off+k/4,none⟩=some (.int .u32 (x:Nat)):=by
    rw[(Cd hbr.bel).1 _ _ hb];exact hc _ x (by rw[<-hx,Dv];simp[show k/4<ws.length by have:=r1.len;omega])
   have hx1:x<4294967296:=by rw[<-hx];exact r2.get _
   have hlen:(Dg N k++List.replicate (s-k) 0).length=s:=by rw[List.length_append,Cc,List.length_replicate];omega
   have hcl:wr.cell? ⟨w1.heap.size,s-1-k,none⟩=some (.int .u8 (((Dg N k++List.replicate (s-k) 0).reverse.getD (s-1-k) 0:Nat))):=hblk.cell (by
    rw[Dv];have:s-1-k<(Dg N k++List.replicate (s-k) 0).reverse.length:=by rw[List.length_reverse,hlen];omega
    simp only[List.getElem?_eq_getElem this,Option.getD_some])
   have hfr:=hblk.free (s-1-k);have hbyte:x/2^(k%4*8)%256=N/B8 k%256:=by
    have hd:=digit ws r2 (k/4);rw[HR4.out,hx]at hd
    rw[<-hd,Nat.mul_comm (k%4) 8,<-Ha,Ta (Nat.mod_lt _ (by omega))]
    congr 3;omega
   have hset:Hid (Bi (wr.setCell ⟨w1.heap.size,s-1-k,none⟩ (.int .u8 ((N/B8 k%256:Nat)))) w1.heap.size 5 .u8 ((Dg N (k+1)++List.replicate (s-(k+1)) 0).reverse)):=by
    have h5:=hblk.set (s-1-k) (N/B8 k%256);have h6:=Nd (Dg N k++List.replicate (s-k) 0) k (N/B8 k%256) (by rw[hlen];omega);rw[hlen]at h6
    rw[h6]at h5
    have h7:s-k=(s-(k+1))+1:=by omega
    have h8:(Dg N k++List.replicate (s-k) 0).set k (N/B8 k%256)=Dg N (k+1)++List.replicate (s-(k+1)) 0:=by
     rw[h7,Mm];have:=Jv (Dg N k) (s-(k+1)) (N/B8 k%256);rw[Cc]at this
     exact this
    rw[h8]at h5
    exact h5
   have HX:=Af hx;have HB:=Af hbyte;have hk3:k%4<4:=Nat.mod_lt _ (by omega);clear hc hx hbyte hlen;go_wp2;go_roundw
   case rel=>
    have e:((x:Int)/2^(k%4*8)%256)=((N/B8 k%256:Nat):Int):=by
     rw[<-HB.out];simp
    rw[e];exact⟨k+1,by omega,by go_num,hbr.below (B:=w.heap.size+1) ((Bd _ _).setCell (by simp;omega) _) (Av _),by simpa using hsz,hbw.setCell (by simp) _,hset.out⟩
   case measure=>simp[intOf];omega
  .have hkm':m<=k:=by omega
   rw[cN ((HM.out k).1 hkm') (by omega)]at hblk
   have HRow:Hid (Bi wr w1.heap.size 5 .u8 (Bf N s)):=hblk;have hbel:=hbr.bel;go_wp2
   go_ret2
   exact⟨_,rfl,HRow.out,hbel,Nat.le_of_lt hz1⟩
theorem Vm (w:World)(p:Option Addr)(n c N:Nat)(size:Int)(h:Ah w p n c N)(hn:n<1000000)(hN:Ay N<=1000000000)(hs:size<=1000000)(hs0:-9223372036854775808<=size) :
  Calls Tryz.prog 122 #[.agg #[.slice p n c],.int .i64 size] w (Lb N size w):=by
 have hbx:=Cw.mk1 w (.slice p n c) 37
 by_cases h1:size<0
 .have HG:Hid (∀w',Below w.heap.size w w'->Lb N size w (.returned (.tuple #[.slice none 0 0,.int .i64 1])) w'):=fun w' hb=>⟨none,0,0,1,rfl,by rw[if_pos h1];exact Row.nil _ _,by rw[if_pos h1],hb,El.none _⟩
  go_enter Tryz.func122,Tryz.ntmps122
  go_wp2_with fail
  refine(Hq _ p n c N (h.below hbx.bel) hn hN).mono ?_;rintro e w1 ⟨rfl,hb1⟩;go_wp2
  go_ret2
  exact HG.out _ (hbx.later hb1).bel
 .by_cases h2:size<Ao N
  .have HG:Hid (∀w',Below w.heap.size w w'->Lb N size w (.returned (.tuple #[.slice none 0 0,.int .i64 2])) w'):=fun w' hb=>⟨none,0,0,2,rfl,by rw[if_neg h1,if_pos h2];exact Row.nil _ _,by rw[if_neg h1,if_pos h2],hb,El.none _⟩
   go_enter Tryz.func122,Tryz.ntmps122
   go_wp2_with fail
   refine(Hq _ p n c N (h.below hbx.bel) hn hN).mono ?_;rintro e w1 ⟨rfl,hb1⟩;go_wp2
   go_ret2
   exact HG.out _ (hbx.later hb1).bel
  .obtain⟨s,rfl⟩:=Int.eq_ofNat_of_zero_le (show 0<=size by omega);refine(Rk w p n c N s h hn hN hs h2).mono ?_;rintro e w' ⟨g,rfl,hb,hbel,hg⟩;have hl:(Bf N s).length=s:=by rw[Bf,List.length_reverse,Cc]
   exact⟨some ⟨g,0,none⟩,s,s,0,rfl,by rw[if_neg h1,if_neg h2];exact hb.row hl.symm (Av _) (by omega),by rw[if_neg h1,if_neg h2],hbel,fun q hq=>by cases hq;exact hg⟩
def be (bs:List Nat):Nat:=le bs.reverse
theorem Uu {bs:List Nat}{k:Nat}(h:k<bs.length):bs.reverse.getD k 0=bs.getD (bs.length-1-k) 0:=by
 rw[Dv,Dv,List.getElem?_reverse h]
theorem fV {x r:Nat}(hx:x<256)(hr:r<4) :
  IntKind.u32.wrap ((x:Int)*2^(min (((r:Int)*8).toNat) 32))=((x*B8 r:Nat):Int)/\x*B8 r<4294967296:=by
 have e1:((r:Int)*8).toNat=8*r:=by omega
 have e2:min (8*r) 32=8*r:=by omega
 have e3:(2:Int)^(8*r)=((B8 r:Nat):Int):=by rw[Ha];simp
 have h4:x*B8 r<4294967296:=by
  have h1:B8 (r+1)<=B8 4:=Fr (by omega);rw[Fa]at h1
  have h2:x*B8 r<256*B8 r:=(Nat.mul_lt_mul_right (Ya r)).2 hx;have h3:B8 4=4294967296:=rfl;omega
 rw[e1,e2,e3,<-Int.natCast_mul];exact⟨IntWalk.u32_in _ (by omega),h4⟩
theorem iB {W x r:Nat}(hW:W<B8 r)(h4:x*B8 r<4294967296)(hr:r<4):bits BinOp.or IntKind.u32 (W:Int) ((x*B8 r:Nat):Int)=((W+x*B8 r:Nat):Int):=by
 have hW4:W<4294967296:=by
  have h1:B8 r<=B8 4:=Fr (by omega);have h3:B8 4=4294967296:=rfl;omega
 rw[u32_or_nat _ _ hW4 h4,Nat.or_comm];rw[nat_join (8*r) (x*B8 r) W (by rw[<-Ha];exact Nat.mul_mod_left _ _) (by rw[<-Ha];exact hW),Nat.add_comm]
theorem Cq (w:World)(p:Option Addr)(n c:Nat)(bs:List Nat)(h:Bb w .u8 p n c bs)(hb8:Au bs)(hn:n<=128) :
  Calls Tryz.prog 123 #[.slice p n c] w fun e w'=>∃q m d,e=.returned (.tuple #[.agg #[.slice q m d],.int .i64 0])/\Ah w' q m d (be bs)/\Below w.heap.size w w'/\El w.heap.size q:=by
 have HL:=Af h.len;obtain⟨m,hm1,hm2⟩:∃m:Nat,n<=4*m/\4*m<=n+3:=⟨(n+3)/4,by omega,by omega⟩
 have hmk:=Ml (i:=((n:Int)+4-1)/4) m (by omega) (by omega);go_enter Tryz.func123,Tryz.ntmps123;go_wp2
 go_loopw [18] (fun i wr=>∃k:Nat,k<=n/\i=.int .i64 k/\Cw w wr (.slice none 0 0)/\w.heap.size+1<wr.heap.size/\Bi wr (w.heap.size+1) 129 .u32 (wordsOf (le (bs.reverse.take k)) m)) (fun i _=>n-(intOf i).toNat)
 case atStart=>
  refine⟨0,by omega,rfl,(Cw.mk1 _ _ _).alloc _,by simp,?_⟩;have:=Bi.zeros (w.alloc (.cells #[.slice none 0 0] 37)) 129 .u32 m;rw[List.take_zero,le,Fn];simpa using this
 case round=>
  obtain⟨k,hk,rfl,hbx,hsz,hblk⟩:=hrel
  by_cases hkn:k<n
  .obtain⟨b,off,rfl,hb,hc⟩:=(h.row (by omega)).pos (by omega);obtain⟨j,hj⟩:∃j,n-1-k=j:=⟨_,rfl⟩
   obtain⟨x,hx⟩:∃x,bs.getD j 0=x:=⟨_,rfl⟩
   have hci:∀w',Cw w w' (.slice none 0 0)->w'.cell? ⟨b,off+j,none⟩=some (.int .u8 (x:Nat)):=fun w' hb'=>by
    rw[(Cd hb'.bel).1 _ _ hb];exact hc j x (by rw[<-hx,Dv];simp[show j<bs.length by have:=HL.out;omega])
   have hx8:x<256:=by rw[<-hx];exact hb8.get j
   have HJ:=Af hj;have HX:=Af hx;clear hc hj hx;go_wp2;obtain⟨V,hV⟩:∃V,le (bs.reverse.take k)=V:=⟨_,rfl⟩
   obtain⟨q,hq⟩:∃q,k/4=q:=⟨_,rfl⟩
   obtain⟨r,hr⟩:∃r,k%4=r:=⟨_,rfl⟩
   obtain⟨d,hd⟩:∃d,V/Al q%4294967296=d:=⟨_,rfl⟩
   rw[hV]at hblk
   have hVlt:V<B8 k:=by
    have:=(hb8.reverse.take k).lt;rw[hV]at this
    have hl:(bs.reverse.take k).length=k:=by simp;have:=HL.out;omega
    rwa [hl]at this
   have hor:=Vw (n:=m) hVlt hx8;rw[hq,hr,hd]at hor
   obtain⟨ho1,ho2,ho3⟩:=hor;have hr4:r<4:=by omega
   obtain⟨hs1,hs2⟩:=fV hx8 hr4;have hs3:=iB ho2 hs2 hr4;have t1:IntKind.i64.wrap ((k:Int)/4)=(q:Int):=by rw[IntWalk.i64_in _ (by omega)];omega
   have t2:(k:Int).tmod 4=(r:Int):=by rw[Int.tmod_eq_emod_of_nonneg (by omega)];omega
   have ty:IntKind.u32.wrap (x:Int)=x:=IntWalk.u32_in _ (by omega);have hs1':IntKind.u32.wrap ((x:Int)*2^(((r:Int)*8).toNat))=(x:Int)*(B8 r:Nat):=by
    have e:min (((r:Int)*8).toNat) 32=((r:Int)*8).toNat:=by omega
    rw[e]at hs1;rw[hs1,Int.natCast_mul]
   have hs3':bits BinOp.or IntKind.u32 (d:Int) ((x:Int)*(B8 r:Nat))=(d:Int)+(x:Int)*(B8 r:Nat):=by
    rw[<-Int.natCast_mul,hs3,Int.natCast_add]
   have t3:IntKind.i64.wrap ((r:Int)*8)=(r:Int)*8:=IntWalk.i64_in _ (by omega);have t4:IntKind.i64.wrap ((n:Int)-1)=(n:Int)-1:=IntWalk.i64_in _ (by omega);have t5:IntKind.i64.wrap ((n:Int)-1-k)=(j:Nat):=by
    rw[IntWalk.i64_in _ (by omega)];have:=HJ.out;omega
   have t6:(j:Int)<n:=by have:=HJ.out;omega
   have t7:(q:Int)<m:=by omega
   have t9:q<m:=by omega
   refine Aj (by kernel_rfl) (by kernel_rfl)
    [some (.slice (some ⟨w.heap.size+1,0,none⟩) m m),some (.int .i64 k),some (.int .i64 (q:Nat)),some (.pointer (some ⟨w.heap.size+1,q,none⟩)),some (.int .u32 (d:Nat)),some (.slice (some ⟨b,off,none⟩) n c),some (.slice (some ⟨b,off,none⟩) n c),
     some (.int .i64 n),some (.int .i64 ((n:Int)-1)),some (.int .i64 k),some (.int .i64 (j:Nat)),some (.pointer (some ⟨b,off+j,none⟩)),some (.int .u8 (x:Nat)),some (.int .u32 (x:Nat)),some (.int .i64 k),some (.int .i64 (r:Nat)),some (.int .i64 ((r:Int)*8)),
     some (.int .u32 (x*B8 r:Nat)),some (.int .u32 (d+x*B8 r:Nat)),some (.pointer (some ⟨w.heap.size+1,q,none⟩)),none]
    [false,false,false,false,false,false,false,false,false,false,false,false,false,false,false,false,false,false,false,false,true] rfl
    (fun _ _=>True)
    (fun D w'=>Cw w w' (.slice none 0 0)/\w.heap.size+1<w'.heap.size/\Bi w' (w.heap.size+1) 129 .u32 (if D 20 then wordsOf (V+B8 k*x) m else wordsOf V m))
    (fun _ _ _=>True)
    (fun _ _ _ _ h _=>h) ⟨hbx.below (Bd _ _).drew (Av _),hsz,hblk⟩ ?_ ?_
   .simp only[Bh,Nat.reduceAdd];refine⟨?_,?_,?_,?_,?_,?_,?_,?_,?_,?_,?_,?_,?_,?_,?_,?_,?_,?_,?_,?_,?_,trivial⟩
    case refine_5=>
     intro D sp w' hD hW hdp ⟨hbx',hsz',hblk'⟩;have h20:D 20=false:=hW 20 (mq (by kernel_rfl));rw[h20]at hblk'
     simp only[Bool.false_eq_true,if_false]at hblk';have hcl:w'.cell? ⟨w.heap.size+1,q,none⟩=some (.int .u32 (d:Nat)):=hblk'.cell (by rw[Cx t9,hd]);simp[asked,Region.wanted,Oper.gives,execOp,Act.eval,Act.put,go_sem,hcl]
    case refine_21=>
     intro D sp w' hD hW hdp ⟨hbx',hsz',hblk'⟩;rw[hD]at hblk'
     simp only[Bool.false_eq_true,if_false]at hblk';have hcl:w'.cell? ⟨w.heap.size+1,q,none⟩=some (.int .u32 (d:Nat)):=hblk'.cell (by rw[Cx t9,hd]);have hfr:=hblk'.free q
     (with_reducible refine Aq (w1:=w'.setCell ⟨w.heap.size+1,q,none⟩ (.int .u32 (d+x*B8 r:Nat))) ?_ ?_ ?_)
     .simp only[Region.wanted]
     .simp[execOp,Act.eval,Act.put,go_sem,hcl,hfr]
     .refine⟨trivial,trivial,hbx'.below (B:=w.heap.size+1) ((Bd _ _).setCell (by simp) _) (Av _),by simpa using hsz',?_⟩;simp only[decide_true,Bool.or_true,if_true];rw[<-ho1];exact hblk'.set _ _
    all_goals
     intro D sp w' hD hW hdp ⟨hbx',hsz',hblk'⟩;have c1:=hci w' hbx';simp[asked,Region.wanted,Oper.gives,execOp,Act.eval,Act.put,go_sem,c1,t1,t2,t3,t4,t5,t6,t7,ty,hs1',hs3']
   .intro sp w' hsp ⟨hbx',hsz',hblk'⟩;have hblk2:Bi w' (w.heap.size+1) 129 .u32 (wordsOf (V+B8 k*x) m):=hblk';clear hblk' hsp;have HV:Hid (le (bs.reverse.take (k+1))=V+B8 k*x):=by
     have e:=Si bs.reverse k (by simp;have:=HL.out;omega);rw[hV,Uu (by have:=HL.out;omega),<-HL.out,HJ.out,HX.out]at e
     exact e
    clear hV hq hr hd t1 t2 t3 t4 t5 hs1 hs1' hs3 hs3' ty ho1;simp only[Ak,Nat.reduceAdd]
    go_simp
    go_wp2;go_roundw
    case rel=>exact⟨k+1,by omega,by go_num,hbx',hsz',by rw[HV.out];exact hblk2⟩
    case measure=>simp[intOf];omega
  .have hkn':n<=k:=by omega
   have hkl:k=bs.length:=by have:=HL.out;omega
   have hrow:=hblk.row (n:=m) (c:=m) (by rw[An]) (Av _) (by omega);have hv:val (wordsOf (le (bs.reverse.take k)) m)=be bs:=by
    rw[List.take_of_length_le (by simp;omega)];refine Cb (Dk hb8.reverse.lt ?_);rw[<-Kf];exact Fr (by simp;omega)
   have HV:=Af hv;clear hv hkl
   go_wp2_with fail
   refine(Ca _ _ _ _ _ hrow (Ck _ _)).mono ?_;rintro e w2 ⟨q,l,d,rfl,hn2,hb2,hp⟩;have hbx2:=hbx.later hb2;have c0:=hbx2.c0;have f0:=hbx2.f0;have hn':El (w.heap.size+1) q:=by
    intro a ha;rcases hp with rfl|rfl
    .cases ha
    .cases ha;simp
   go_wp2;refine bodyPost_ret (v:=.tuple #[.agg #[.slice q l d],.int .i64 0]) (by simp[results,Tryz.results123,go_sem,c0]) rfl ⟨q,l,d,rfl,?_,?_,hn'.mono (by omega)⟩
   .have:=hn2.setCell (a:=⟨w.heap.size,0,none⟩) (hn'.ne (show w.heap.size<w.heap.size+1 by omega)) (.slice q l d);rw[HV.out]at this
    exact this
   .exact hbx2.bel.setCell (Av _) _
def Do (bs:List Nat)(B:Nat)(v:Value)(w:World):Prop:=∃q n d,v=.slice q n d/\Row w .u8 q n d bs/\El B q
theorem Do.below {bs:List Nat}{B:Nat}{v:Value}{w w':World}(h:Do bs B v w)(hb:Below w.heap.size w w'):Do bs B v w' :=
 let ⟨q,n,d,h1,h2,h3⟩:=h
 ⟨q,n,d,h1,h2.below hb,h3⟩
theorem Uk (w:World)(p:Option Addr)(n c N:Nat)(h:Ah w p n c N)(hn:n<1000000)(hN:Ay N<=1000000) :
  Calls Tryz.prog 91 #[.agg #[.slice p n c]] w fun e w'=>∃v,e=.returned v/\Do (Bf N (Ao N)) w.heap.size v w'/\Below w.heap.size w w':=by
 have hbx:=Cw.mk1 w (.slice p n c) 37;have hbs:Ao N<=1000000:=by unfold Ao;omega
 go_enter Tryz.func91,Tryz.ntmps91;go_wp2;refine Aj (by kernel_rfl) (by kernel_rfl)
  [some (.agg #[.slice p n c]),some (.agg #[.slice p n c]),none,none,none,none,none,none,none]
  [false,false,true,true,true,true,true,true,true] rfl
  (fun w1 w2=>Below w1.heap.size w1 w2)
  (fun _ w'=>Cw w w' (.slice p n c))
  (fun i v w'=>match i with
   | 2=>v=.int .i64 (Ao N:Nat)
   | 3|4=>∃u,v=.tuple #[u,.int .i64 0]/\Do (Bf N (Ao N)) w.heap.size u w'
   | 5|7=>Do (Bf N (Ao N)) w.heap.size v w'
   | _=>v=.int .i64 0)
  ?_ (hbx.below (Bd _ _).drew (Av _)) ?_ ?_
 .intro i v w1 w2 hf hb;split at hf
  .exact hf
  .exact hf.imp fun u h=>⟨h.1,h.2.below hb⟩
  .exact hf.imp fun u h=>⟨h.1,h.2.below hb⟩
  .exact hf.below hb
  .exact hf.below hb
  .exact hf
 .simp only[Bh,Nat.reduceAdd];refine⟨?_,?_,?_,?_,?_,?_,?_,?_,?_,trivial⟩
  case refine_3=>
   intro D sp w' hD hW hdp hbx'
   (with_reducible refine Ad (w1:=w') (f := 152) (args:=#[.agg #[.slice p n c]]) ?_ ?_ ?_)
   .simp only[Region.wanted]
   .simp[Act.eval,Act.put,go_sem]
   .refine(Hq w' p n c N (h.below hbx'.bel) hn (by omega)).mono ?_;rintro e w2 ⟨rfl,hb⟩;exact⟨_,rfl,hb,rfl,hbx'.later hb⟩
  case refine_4=>
   intro D sp w' hD hW hdp hbx';have h2:sp 2=.int .i64 (Ao N:Nat):=(hdp 2 (mq (by kernel_rfl))).2
   (with_reducible refine Ad (w1:=w') (f := 122) (args:=#[.agg #[.slice p n c],.int .i64 (Ao N:Nat)]) ?_ ?_ ?_)
   .simp only[Region.wanted]
   .simp[Act.eval,Act.put,go_sem,h2]
   .refine(Vm w' p n c N (Ao N:Nat) (h.below hbx'.bel) hn (by omega) (by omega) (by omega)).mono ?_;rintro e w2 ⟨q,m,d,k,rfl,hrow,hk,hb,hq⟩;have e1:¬((Ao N:Nat):Int)<0:=by omega
    have e2:¬((Ao N:Nat):Int)<Ao N:=by omega
    rw[if_neg e1,if_neg e2]at hrow hk
    rw[hk];exact⟨_,rfl,hb,⟨_,rfl,q,m,d,rfl,hrow,hq.mono hbx'.bel.size⟩,hbx'.later hb⟩
  case refine_5=>
   intro D sp w' hD hW hdp hbx';have hx:∃u,sp 3=.tuple #[u,.int .i64 0]/\Do (Bf N (Ao N)) w.heap.size u w':=(hdp 3 (mq (by kernel_rfl))).2
   (with_reducible refine Bc hx fun u hu=>?_)
   have h1:=hu.1;have h2:=hu.2
   (with_reducible refine Ai (w1:=w') (v:=.tuple #[u,.int .i64 0]) ?_ ?_ ?_)
   .simp only[Region.wanted]
   .simp[execOp,Act.eval,Act.put,go_sem,h1]
   .exact⟨Bd _ _,⟨u,rfl,h2⟩,hbx'⟩
  case refine_6=>
   intro D sp w' hD hW hdp hbx';have hx:∃u,sp 4=.tuple #[u,.int .i64 0]/\Do (Bf N (Ao N)) w.heap.size u w':=(hdp 4 (mq (by kernel_rfl))).2
   (with_reducible refine Bc hx fun u hu=>?_)
   have h1:=hu.1;have h2:=hu.2
   (with_reducible refine Ai (w1:=w') (v:=u) ?_ ?_ ?_)
   .simp only[Region.wanted]
   .simp[execOp,Act.eval,Act.put,go_sem,h1]
   .exact⟨Bd _ _,h2,hbx'⟩
  case refine_7=>
   intro D sp w' hD hW hdp hbx';have hx:∃u,sp 4=.tuple #[u,.int .i64 0]/\Do (Bf N (Ao N)) w.heap.size u w':=(hdp 4 (mq (by kernel_rfl))).2
   (with_reducible refine Bc hx fun u hu=>?_)
   have h1:=hu.1;have h2:=hu.2
   (with_reducible refine Ai (w1:=w') (v:=.int .i64 0) ?_ ?_ ?_)
   .simp only[Region.wanted]
   .simp[execOp,Act.eval,Act.put,go_sem,h1]
   .exact⟨Bd _ _,rfl,hbx'⟩
  case refine_8=>
   intro D sp w' hD hW hdp hbx';have h2:Do (Bf N (Ao N)) w.heap.size (sp 5) w':=(hdp 5 (mq (by kernel_rfl))).2
   (with_reducible refine Ai (w1:=w') (v:=sp 5) ?_ ?_ ?_)
   .simp only[Region.wanted]
   .simp[execOp,Act.eval,Act.put,go_sem]
   .exact⟨Bd _ _,h2,hbx'⟩
  case refine_9=>
   intro D sp w' hD hW hdp hbx';have h2:sp 6=.int .i64 0:=(hdp 6 (mq (by kernel_rfl))).2
   (with_reducible refine Ai (w1:=w') (v:=.int .i64 0) ?_ ?_ ?_)
   .simp only[Region.wanted]
   .simp[execOp,Act.eval,Act.put,go_sem,h2]
   .exact⟨Bd _ _,rfl,hbx'⟩
  all_goals
   intro D sp w' hD hW hdp hbx';have c0:=hbx'.c0;simp[asked,Region.wanted,Oper.gives,execOp,Act.eval,Act.put,go_sem,c0]
 .intro sp w' hsp hbx';have h7:Do (Bf N (Ao N)) w.heap.size (sp 7) w':=hsp 7 rfl;clear hsp;simp only[Ak,Nat.reduceAdd];generalize sp 7=u at *
  go_simp
  go_wp2;go_ret;exact⟨_,rfl,h7,hbx'.bel⟩
theorem Ky {N L i:Nat}(h:i<L):(Dz N L)[i]? = some (bit N i):=by simp[Dz,h]
theorem aM (N:Nat):bitsOf N=Dz N (Ay N):=rfl
theorem Vq {N L k:Nat}(h:k<=L):(Dz N L).take k=Dz N k:=by
 apply List.ext_getElem?;intro i;rw[List.getElem?_take];split
 .rw[Ky (by omega),Ky (by omega)]
 .rw[List.getElem?_eq_none (by rw[Ql];omega)]
theorem Zp {N m:Nat}(h:N<2^(m+1))(hb:bit N m=false):N<2^m:=by
 have h1:=Oc N m;rw[Nat.mod_eq_of_lt h,hb]at h1
 simp only[Bool.false_eq_true,if_false,Nat.add_zero]at h1;rw[h1];exact Nat.mod_lt _ (Nat.pow_pos (by omega))
theorem Vp {N m:Nat}(h:N<2^(m+1))(hb:bit N m=true):Ay N=m+1:=by
 refine Nat.le_antisymm ((Cj N _).2 h) ?_;refine fJ ?_;unfold bit at hb;have h3:N/2^m%2=1:=by simpa using hb
 generalize N/2^m=z at *;omega
theorem Ir.take {w:World}{p:Option Addr}{n c:Nat}{xs:List Bool}(h:Ir w p n c xs)(m:Nat)(hm:m<=n):Ir w p m c (xs.take m):=by
 have hl:=h.len;refine⟨by simp;omega,Eo hm h.cap,h.max,?_⟩;rcases h.at_ with ⟨h1,h2,h3⟩|⟨b,off,h1,h2,h3⟩
 .exact .inl ⟨h1,by omega,h3⟩
 .refine .inr ⟨b,off,h1,h2,fun i x hx=>h3 i x ?_⟩;rw[List.getElem?_take]at hx
  split at hx
  .exact hx
  .cases hx
def Xw (N:Nat)(p:Option Addr)(c:Nat)(w:World)(e:Ending)(w':World):Prop:=∃m,e=.returned (.slice p m c)/\Bj w p m c N/\w=w'
theorem Tq (w:World)(p:Option Addr)(n c N:Nat)(h:Ir w p n c (Dz N n))(hN:N<2^n) :
  Calls Tryz.prog 135 #[.slice p n c] w (Xw N p c w):=by
 have hm:=h.max;have hcp:=h.cap;go_enter Tryz.func135,Tryz.ntmps135;go_wp2
 go_loop [0] (fun s=>∃k:Nat,k<=n/\s=.slice p k c/\Hid (N<2^k)) (fun s=>match s with | .slice _ k _=>k|_=>0)
 case atStart=>exact⟨n,Av _,rfl,Af hN⟩
 case round=>
  obtain⟨k,hk,rfl,hv⟩:=hrel
  cases k with
  | zero=>
   have hN0:N=0:=by have:=hv.out;simp at this;omega
   have HN:=Af hN0;clear hN0;go_wp2;go_ret;refine⟨0,rfl,?_,rfl⟩;have:=h.take 0 (by omega);rw[HN.out];exact this
  | succ m=>
   obtain⟨b,off,rfl,hb,hc⟩:=h.pos (by omega);obtain⟨x,hx⟩:∃x,bit N m=x:=⟨_,rfl⟩
   have hci:w.cell? ⟨b,off+m,none⟩=some (.bool x):=hc m x (by rw[Ky (by omega),hx]);have HX:=Af hx;clear hc hx
   cases x with
   | false=>
    go_wp2;go_round
    case rel=>exact⟨m,by omega,rfl,Af (Zp hv.out HX.out)⟩
    case measure=>simp
   | true=>
    go_wp2;go_ret;have e:=Vp hv.out HX.out;refine⟨m+1,rfl,?_,rfl⟩;have:=h.take (m+1) hk;rw[Vq hk,<-e,<-aM]at this
    rw[<-e];exact this
theorem gD (xs:List Nat)(h:Au xs):∀j,le xs/B8 j%256=xs.getD j 0:=by
 induction xs with
 | nil=>intro j;simp[le]
 | cons x xs ih=>
  have hx:x<256:=h x (by simp);have ih:=ih (fun y hy=>h y (by simp[hy]));intro j
  cases j with
  | zero=>simp only[le,Gs,Nat.div_one,List.getD_cons_zero];omega
  | succ j=>
   simp only[le,Fa,List.getD_cons_succ];rw[<-Nat.div_div_eq_div_mul,show (x+256*le xs)/256=le xs by omega];exact ih j
theorem Gq (N i:Nat):bit N i=N.testBit i:=by
 unfold bit;rw[Nat.testBit_eq_decide_div_mod_eq]
theorem dK {N j k x:Nat}(hx:N/B8 j%256=x)(hk:k<8):bit N (8*j+k)=decide (x/2^k%2=1):=by
 show _=bit x k;rw[Gq,Gq,<-hx,Ha,show (256:Nat)=2^8 from rfl,Nat.testBit_mod_two_pow,Nat.testBit_div_two_pow];simp[hk,Nat.add_comm]
theorem Zv (V n:Nat):Dg V (n+1)=(V%256)::Dg (V/256) n:=by
 simp[Dg,List.range_succ_eq_map,Function.comp_def,Fa,Gs,Nat.div_div_eq_div_mul]
theorem Sj:∀(xs:List Nat),Au xs->Dg (le xs) xs.length=xs
 | [],_=>by simp[Dg]
 | x::xs,h=>by
  have hx:x<256:=h x (by simp);have e:=Sj xs (fun y hy=>h y (by simp[hy]));rw[List.length_cons,Zv];simp only[le];rw[show (x+256*le xs)%256=x by omega,show (x+256*le xs)/256=le xs by omega,e]
theorem cM:∀(xs:List Nat) (q d:Nat),q<xs.length->le (xs.set q (xs.getD q 0+d))=le xs+B8 q*d
 | x::xs,0,d,_=>by simp[le,Gs];omega
 | x::xs,q+1,d,h=>by
  have e:=cM xs q d (by simpa using h);simp only[List.set_cons_succ,le,List.getD_cons_succ,Fa];rw[e,Nat.mul_add,Nat.mul_assoc];omega
theorem Ul {V n j:Nat}(h:j<n):(Dg V n)[j]? = some (V/B8 j%256):=by simp[Dg,h]
theorem Zu {V n j:Nat}(h:j<n):(Dg V n).getD j 0=V/B8 j%256:=by rw[Dv,Ul h];rfl
theorem Um {M k n:Nat}(hM:M<2^k)(hk:k/8<n) :
  M/B8 (k/8)%256<2^(k%8)/\(Dg M n).set (k/8) (M/B8 (k/8)%256+2^(k%8))=Dg (M+2^k) n:=by
 have e2:2^k=B8 (k/8)*2^(k%8):=by
  rw[Ha,<-Nat.pow_add,Nat.div_add_mod]
 have hlt:M/B8 (k/8)<2^(k%8):=by
  rw[Nat.div_lt_iff_lt_mul (Ya _),Nat.mul_comm,<-e2];exact hM
 have hp:2^(k%8)<=2^7:=Nat.pow_le_pow_right (by omega) (by omega);have hmod:M/B8 (k/8)%256<2^(k%8):=Nat.lt_of_le_of_lt (Nat.mod_le _ _) hlt;refine⟨hmod,?_⟩;have hset:=cM (Dg M n) (k/8) (2^(k%8)) (by rw[Cc];exact hk);rw[Zu hk,<-e2]at hset
 have hM8:M<B8 n:=by
  rw[Ha];exact Dk hM (Nat.pow_le_pow_right (by omega) (by omega))
 rw[Od,Nat.mod_eq_of_lt hM8]at hset
 have hb:Au ((Dg M n).set (k/8) (M/B8 (k/8)%256+2^(k%8))):=by
  intro y hy;rcases List.mem_or_eq_of_mem_set hy with h|rfl
  .exact Ga M n y h
  .omega
 have:=Sj _ hb;rw[hset,List.length_set,Cc]at this
 exact this.symm
theorem dN {M k n j:Nat}(hM:M<2^k)(hk:k/8<n)(hj:j=n-1-k/8) :
  (Bf M n).set j (M/B8 (k/8)%256+2^(k%8))=Bf (M+2^k) n:=by
 subst hj;have:=Nd (Dg M n) (k/8) (M/B8 (k/8)%256+2^(k%8)) (by rw[Cc];exact hk);rw[Cc]at this
 unfold Bf;rw[this,(Um hM hk).2]
theorem dM {M n j q:Nat}(hq:q<n)(hj:j=n-1-q):(Bf M n)[j]? = some (M/B8 q%256):=by
 subst hj;unfold Bf;rw[List.getElem?_reverse (by rw[Cc];omega),Cc,show n-1-(n-1-q)=q by omega,Ul hq]
theorem aP (n:Nat):Bf 0 n=List.replicate n 0:=by
 unfold Bf Dg;apply List.ext_getElem (by simp);intro i h1 h2;simp
theorem Cl (M n:Nat):(Bf M n).length=n:=by simp[Bf,Cc]
theorem gU {bs:List Nat}(h:Au bs){j k m:Nat}(hm:j+m+1=bs.length)(hk:k<8):bit (be bs) (8*j+k)=decide (bs.getD m 0/2^k%2=1):=by
 refine dK ?_ hk;unfold be;rw[gD _ h.reverse,Uu (by omega)]
 congr 1;omega
theorem cC (w:World)(p:Option Addr)(n c:Nat)(bs:List Nat)(h:Bb w .u8 p n c bs)(hb8:Au bs)(hn:n<=1000) :
  Calls Tryz.prog 72 #[.slice p n c] w (aZ (be bs) w):=by
 obtain⟨i0,hi,hz0,hz1,hz2⟩:=info_parts Tryz.info_bool;have HL:=Af h.len;have hown:=World.ownsRow_made w (base:=w.heap.size) (e := 4) (size:=1) #[] 0 (Av _) (by simp[maxLen]) (by simp);obtain⟨N,hN⟩:∃N,be bs=N:=⟨_,rfl⟩
 have HN:=Af hN;clear hN;go_enter Tryz.func72,Tryz.ntmps72;go_wp2
 go_loopw [3,4,5] (fun v i _ wr=>∃j m:Nat,j+m<=n/\n<=j+m/\i=.int .i64 ((m:Int)-1)/\wr.ownsRow w.heap.size 4 1 v (8*j) ((Dz N (8*j)).map Value.bool)/\Below w.heap.size w wr) (fun _ i _ _=>(intOf i+1).toNat)
 case atStart=>
  refine⟨0,n,by omega,by omega,rfl,?_,(Bd _ _).alloc (Av _) _⟩;simpa [Dz]using hown
 case round=>
  obtain⟨j,m,hj1,hj2,rfl,ho,hbw⟩:=hrel
  cases m with
  | zero=>
   have hjn:j=n:=by omega
   have HJ:=Af hjn;clear hjn;obtain⟨q,d,rfl,hrow,hnew⟩:=Ir.of_owns ho;have hlt:N<2^(8*j):=by
    have:=hb8.reverse.lt;rw[<-HN.out];unfold be;rw[Ha]at this
    rw[HJ.out,HL.out];simpa using this
   have HLT:=Af hlt;clear hlt
   go_wp2_with fail
   refine(Tq wr q (8*j) d N hrow HLT.out).mono ?_;rintro e w1 ⟨m,rfl,hm,rfl⟩;go_wp2;go_ret;rw[HN.out];exact⟨q,m,d,rfl,hm,hbw,hnew⟩
  | succ m=>
   obtain⟨b,off,rfl,hb,hc⟩:=(h.row (by omega)).pos (by omega);obtain⟨x,hx⟩:∃x,bs.getD m 0=x:=⟨_,rfl⟩
   have hci:w.cell? ⟨b,off+m,none⟩=some (.int .u8 (x:Nat)):=hc m x (by rw[<-hx,Dv];simp[show m<bs.length by have:=HL.out;omega]);have hx8:x<256:=by rw[<-hx];exact hb8.get m
   have HX:=Af hx;clear hc hx;have e1:(((m+1:Nat):Int)-1)=(m:Int):=by omega
   simp only[e1];clear e1;obtain⟨wo,rfl⟩:∃wo:World,wo=wr:=⟨_,rfl⟩
   go_wp2
   go_loopw [3,5] (fun v k wr=>∃q:Nat,q<=8/\k=.int .i64 q/\wr.ownsRow w.heap.size 4 1 v (8*j+q) ((Dz N (8*j+q)).map Value.bool)/\Below w.heap.size w wr) (fun _ k _=>8-(intOf k).toNat)
   case atStart=>exact⟨0,by omega,rfl,ho,hbw⟩
   case round=>
    obtain⟨q,hq,rfl,ho2,hbw2⟩:=hrel
    by_cases hq8:q<8
    .have hq8':q<8:=hq8;have hbt:bit N (8*j+q)=(((x:Int)/2^q).tmod 2==1):=by
      rw[<-HN.out,gU hb8 (m:=m) (by have:=HL.out;omega) hq8',HX.out,Bool.eq_iff_iff];have e:((x:Int)/2^q)=((x/2^q:Nat):Int):=by simp[Int.natCast_ediv]
      rw[e,Int.tmod_eq_emod_of_nonneg (Int.natCast_nonneg _)];simp only[decide_eq_true_eq,beq_iff_eq];omega
     have HB:=Af hbt;clear hbt hq8';have hci2:wr.cell? ⟨b,off+m,none⟩=some (.int .u8 (x:Nat)):=by rw[(Cd hbw2).1 _ _ hb];exact hci
     go_wp2_with (at_builtin;refine wpList_append_own _ rfl _ _ 28 rfl w.heap.size 4 i0 (.bool false) 1 1 Tryz.underlying28 hi hz0 hz1 hz2 rfl (by decide) _ _ _ rfl (ho2.alloc _) ⟨wr.heap.size,0,none⟩ 1 1 [.bool (((x:Int)/2^q).tmod 2==1)] rfl rfl ?c1 ?c2 ?c3 ?c4 ?c5 ?_)
     case c1=>
      intro jj u hj
      match jj,hj with
      | 0,hj=>simp at hj;subst hj;simp[Addr.add]
     case c2=>intro u hu;simp at hu;subst hu;rfl
     case c3=>unfold maxLen;omega
     case c4=>omega
     case c5=>have:=hbw2.size;simp;omega
     intro v' w1 ho' hg _;have hbw1:Below w.heap.size w w1:=(hbw2.alloc hbw2.size _).grown hg (by have:=hbw2.size;simp;omega) (fun j hj=>(ho2.lt j hj).1);have ho1:w1.ownsRow w.heap.size 4 1 v' (8*j+(q+1)) ((Dz N (8*j+(q+1))).map Value.bool):=by
      rw[<-Nat.add_assoc,Vr,List.map_append,HB.out];exact ho'
     clear ho' hg ho2;go_wp2;go_roundw
     case rel=>exact⟨q+1,by omega,by go_num,ho1,hbw1⟩
     case measure=>simp[intOf];omega
    .have hq9:q=8:=by omega
     subst hq9;go_wp2;go_roundw
     case rel=>exact⟨j+1,m,by omega,by omega,rfl,ho2,hbw2⟩
     case measure=>simp[intOf]
end Go.Proofs.YtokhckjemidbpaaGreatDoor
