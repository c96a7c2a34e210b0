/- The document's sums and differences. -/
import Derived.Test.YtnbmfaihlefgfaaGreatDoorNatP
import Derived.Deep.QuietTactic
import Derived.BigQuiet
import Derived.RangeFuncNested
set_option maxRecDepth 1000000
set_option maxHeartbeats 16000000
set_option linter.all false
namespace Go.Proofs.YtnbmfaihlefgfaaGreatDoor
open Go Go.RowKit Go.Proofs.YtnbmfaihlefgfaaGreatDoor.Flow
def be (bs:List Nat):Nat:=le bs.reverse
theorem Zq {bs:List Nat}{k:Nat}(h:k<bs.length):bs.reverse.getD k 0=bs.getD (bs.length-1-k) 0:=by
 rw[Ex,Ex,List.getElem?_reverse h]
theorem pN {x r:Nat}(hx:x<256)(hr:r<4) :
  IntKind.u32.wrap ((x:Int)*2^(min (((r:Int)*8).toNat) 32))=((x*B8 r:Nat):Int)/\x*B8 r<4294967296:=by
 have e1:((r:Int)*8).toNat=8*r:=by omega
 have e2:min (8*r) 32=8*r:=by omega
 have e3:(2:Int)^(8*r)=((B8 r:Nat):Int):=by rw[Ja];simp
 have h4:x*B8 r<4294967296:=by
  have h1:B8 (r+1)<=B8 4:=Ip (by omega);rw[Gp]at h1
  have h2:x*B8 r<256*B8 r:=(Nat.mul_lt_mul_right (dZ r)).2 hx;have h3:B8 4=4294967296:=rfl;omega
 rw[e1,e2,e3,<-Int.natCast_mul];exact⟨IntWalk.u32_in _ (by omega),h4⟩
theorem qO {W x r:Nat}(hW:W<B8 r)(h4:x*B8 r<4294967296)(hr:r<4):bits BinOp.or IntKind.u32 (W:Int) ((x*B8 r:Nat):Int)=((W+x*B8 r:Nat):Int):=by
 have hW4:W<4294967296:=by
  have h1:B8 r<=B8 4:=Ip (by omega);have h3:B8 4=4294967296:=rfl;omega
 rw[u32_or_nat _ _ hW4 h4,Nat.or_comm];rw[nat_join (8*r) (x*B8 r) W (by rw[<-Ja];exact Nat.mul_mod_left _ _) (by rw[<-Ja];exact hW),Nat.add_comm]
theorem Kv (w:World)(p:Option Addr)(n c:Nat)(bs:List Nat)(h:Ci w .u8 p n c bs)(hb8:Bv bs)(hn:n<=128) :
  Calls Tryz.prog 164 #[.slice p n c] w fun e w'=>∃q m d,e=.returned (.tuple #[.agg #[.slice q m d],.int .i64 0])/\Ai w' q m d (be bs)/\Below w.heap.size w w'/\Ey w.heap.size q:=by
 have HL:=Ag h.len;obtain⟨m,hm1,hm2⟩:∃m:Nat,n<=4*m/\4*m<=n+3:=⟨(n+3)/4,by omega,by omega⟩
 have hmk:=Pt (i:=((n:Int)+4-1)/4) m (by omega) (by omega);go_enter Tryz.func164,Tryz.ntmps164;go_wp2
 go_loopw [18] (fun i wr=>∃k:Nat,k<=n/\i=.int .i64 k/\Dq w wr (.slice none 0 0)/\w.heap.size+1<wr.heap.size/\Cf wr (w.heap.size+1) 130 .u32 (wordsOf (le (bs.reverse.take k)) m)) (fun i _=>n-(intOf i).toNat)
 case atStart=>
  refine⟨0,by omega,rfl,(Dq.mk1 _ _ _).alloc _,by simp,?_⟩;have:=Cf.zeros (w.alloc (.cells #[.slice none 0 0] 36)) 130 .u32 m;rw[List.take_zero,le,Ha];simpa using this
 case round=>
  obtain⟨k,hk,rfl,hbx,hsz,hblk⟩:=hrel
  by_cases hkn:k<n
  .obtain⟨b,off,rfl,hb,hc⟩:=(h.row (by omega)).pos (by omega);obtain⟨j,hj⟩:∃j,n-1-k=j:=⟨_,rfl⟩
   obtain⟨x,hx⟩:∃x,bs.getD j 0=x:=⟨_,rfl⟩
   have hci:∀w',Dq w w' (.slice none 0 0)->w'.cell? ⟨b,off+j,none⟩=some (.int .u8 (x:Nat)):=fun w' hb'=>by
    rw[(Co hb'.bel).1 _ _ hb];exact hc j x (by rw[<-hx,Ex];simp[show j<bs.length by have:=HL.out;omega])
   have hx8:x<256:=by rw[<-hx];exact hb8.get j
   have HJ:=Ag hj;have HX:=Ag hx;clear hc hj hx;go_wp2;obtain⟨V,hV⟩:∃V,le (bs.reverse.take k)=V:=⟨_,rfl⟩
   obtain⟨q,hq⟩:∃q,k/4=q:=⟨_,rfl⟩
   obtain⟨r,hr⟩:∃r,k%4=r:=⟨_,rfl⟩
   obtain⟨d,hd⟩:∃d,V/Ao q%4294967296=d:=⟨_,rfl⟩
   rw[hV]at hblk
   have hVlt:V<B8 k:=by
    have:=(hb8.reverse.take k).lt;rw[hV]at this
    have hl:(bs.reverse.take k).length=k:=by simp;have:=HL.out;omega
    rwa [hl]at this
   have hor:=bI (n:=m) hVlt hx8;rw[hq,hr,hd]at hor
   obtain⟨ho1,ho2,ho3⟩:=hor;have hr4:r<4:=by omega
   obtain⟨hs1,hs2⟩:=pN hx8 hr4;have hs3:=qO ho2 hs2 hr4;have t1:IntKind.i64.wrap ((k:Int)/4)=(q:Int):=by rw[IntWalk.i64_in _ (by omega)];omega
   have t2:(k:Int).tmod 4=(r:Int):=by rw[Int.tmod_eq_emod_of_nonneg (by omega)];omega
   have ty:IntKind.u32.wrap (x:Int)=x:=IntWalk.u32_in _ (by omega);have hs1':IntKind.u32.wrap ((x:Int)*2^(((r:Int)*8).toNat))=(x:Int)*(B8 r:Nat):=by
    have e:min (((r:Int)*8).toNat) 32=((r:Int)*8).toNat:=by omega
    rw[e]at hs1;rw[hs1,Int.natCast_mul]
   have hs3':bits BinOp.or IntKind.u32 (d:Int) ((x:Int)*(B8 r:Nat))=(d:Int)+(x:Int)*(B8 r:Nat):=by
    rw[<-Int.natCast_mul,hs3,Int.natCast_add]
   have t3:IntKind.i64.wrap ((r:Int)*8)=(r:Int)*8:=IntWalk.i64_in _ (by omega);have t4:IntKind.i64.wrap ((n:Int)-1)=(n:Int)-1:=IntWalk.i64_in _ (by omega);have t5:IntKind.i64.wrap ((n:Int)-1-k)=(j:Nat):=by
    rw[IntWalk.i64_in _ (by omega)];have:=HJ.out;omega
   have t6:(j:Int)<n:=by have:=HJ.out;omega
   have t7:(q:Int)<m:=by omega
   have t9:q<m:=by omega
   refine Aj (by kernel_rfl) (by kernel_rfl)
    [some (.slice (some ⟨w.heap.size+1,0,none⟩) m m),some (.int .i64 k),some (.int .i64 (q:Nat)),some (.pointer (some ⟨w.heap.size+1,q,none⟩)),some (.int .u32 (d:Nat)),some (.slice (some ⟨b,off,none⟩) n c),some (.slice (some ⟨b,off,none⟩) n c),
     some (.int .i64 n),some (.int .i64 ((n:Int)-1)),some (.int .i64 k),some (.int .i64 (j:Nat)),some (.pointer (some ⟨b,off+j,none⟩)),some (.int .u8 (x:Nat)),some (.int .u32 (x:Nat)),some (.int .i64 k),some (.int .i64 (r:Nat)),some (.int .i64 ((r:Int)*8)),
     some (.int .u32 (x*B8 r:Nat)),some (.int .u32 (d+x*B8 r:Nat)),some (.pointer (some ⟨w.heap.size+1,q,none⟩)),none]
    [false,false,false,false,false,false,false,false,false,false,false,false,false,false,false,false,false,false,false,false,true] rfl
    (fun _ _=>True)
    (fun D w'=>Dq w w' (.slice none 0 0)/\w.heap.size+1<w'.heap.size/\Cf w' (w.heap.size+1) 130 .u32 (if D 20 then wordsOf (V+B8 k*x) m else wordsOf V m))
    (fun _ _ _=>True)
    (fun _ _ _ _ h _=>h) ⟨hbx.below (Br _ _).drew (Av _),hsz,hblk⟩ ?_ ?_
   .simp only[Bu,Nat.reduceAdd];refine⟨?_,?_,?_,?_,?_,?_,?_,?_,?_,?_,?_,?_,?_,?_,?_,?_,?_,?_,?_,?_,?_,trivial⟩
    case refine_5=>
     intro D sp w' hD hW hdp ⟨hbx',hsz',hblk'⟩;have h20:D 20=false:=hW 20 (mq (by kernel_rfl));rw[h20]at hblk'
     simp only[Bool.false_eq_true,if_false]at hblk';have hcl:w'.cell? ⟨w.heap.size+1,q,none⟩=some (.int .u32 (d:Nat)):=hblk'.cell (by rw[Dz t9,hd]);simp[asked,Region.wanted,Oper.gives,execOp,Act.eval,Act.put,go_sem,hcl]
    case refine_21=>
     intro D sp w' hD hW hdp ⟨hbx',hsz',hblk'⟩;rw[hD]at hblk'
     simp only[Bool.false_eq_true,if_false]at hblk';have hcl:w'.cell? ⟨w.heap.size+1,q,none⟩=some (.int .u32 (d:Nat)):=hblk'.cell (by rw[Dz t9,hd]);have hfr:=hblk'.free q
     (with_reducible refine Ar (w1:=w'.setCell ⟨w.heap.size+1,q,none⟩ (.int .u32 (d+x*B8 r:Nat))) ?_ ?_ ?_)
     .simp only[Region.wanted]
     .simp[execOp,Act.eval,Act.put,go_sem,hcl,hfr]
     .refine⟨trivial,trivial,hbx'.below (B:=w.heap.size+1) ((Br _ _).setCell (by simp) _) (Av _),by simpa using hsz',?_⟩;simp only[decide_true,Bool.or_true,if_true];rw[<-ho1];exact hblk'.set _ _
    all_goals
     intro D sp w' hD hW hdp ⟨hbx',hsz',hblk'⟩;have c1:=hci w' hbx';simp[asked,Region.wanted,Oper.gives,execOp,Act.eval,Act.put,go_sem,c1,t1,t2,t3,t4,t5,t6,t7,ty,hs1',hs3']
   .intro sp w' hsp ⟨hbx',hsz',hblk'⟩;have hblk2:Cf w' (w.heap.size+1) 130 .u32 (wordsOf (V+B8 k*x) m):=hblk';clear hblk' hsp;have HV:Hid (le (bs.reverse.take (k+1))=V+B8 k*x):=by
     have e:=Wr bs.reverse k (by simp;have:=HL.out;omega);rw[hV,Zq (by have:=HL.out;omega),<-HL.out,HJ.out,HX.out]at e
     exact e
    clear hV hq hr hd t1 t2 t3 t4 t5 hs1 hs1' hs3 hs3' ty ho1;simp only[An,Nat.reduceAdd]
    go_simp
    go_wp2;go_roundw
    case rel=>exact⟨k+1,by omega,by go_num,hbx',hsz',by rw[HV.out];exact hblk2⟩
    case measure=>simp[intOf];omega
  .have hkn':n<=k:=by omega
   have hkl:k=bs.length:=by have:=HL.out;omega
   have hrow:=hblk.row (n:=m) (c:=m) (by rw[Aq]) (Av _) (by omega);have hv:val (wordsOf (le (bs.reverse.take k)) m)=be bs:=by
    rw[List.take_of_length_le (by simp;omega)];refine Cw (Eh hb8.reverse.lt ?_);rw[<-Mv];exact Ip (by simp;omega)
   have HV:=Ag hv;clear hv hkl
   go_wp2_with fail
   refine(Cv _ _ _ _ _ hrow (Df _ _)).mono ?_;rintro e w2 ⟨q,l,d,rfl,hn2,hb2,hp⟩;have hbx2:=hbx.later hb2;have c0:=hbx2.c0;have f0:=hbx2.f0;have hn':Ey (w.heap.size+1) q:=by
    intro a ha;rcases hp with rfl|rfl
    .cases ha
    .cases ha;simp
   go_wp2;refine bodyPost_ret (v:=.tuple #[.agg #[.slice q l d],.int .i64 0]) (by simp[results,Tryz.results164,go_sem,c0]) rfl ⟨q,l,d,rfl,?_,?_,hn'.mono (by omega)⟩
   .have:=hn2.setCell (a:=⟨w.heap.size,0,none⟩) (hn'.ne (show w.heap.size<w.heap.size+1 by omega)) (.slice q l d);rw[HV.out]at this
    exact this
   .exact hbx2.bel.setCell (Av _) _
theorem Hx {N L i:Nat}(h:i<L):(Ck N L)[i]? = some (bit N i):=by simp[Ck,h]
theorem iL (N:Nat):bitsOf N=Ck N (Ak N):=rfl
theorem aU {N L k:Nat}(h:k<=L):(Ck N L).take k=Ck N k:=by
 apply List.ext_getElem?;intro i;rw[List.getElem?_take];split
 .rw[Hx (by omega),Hx (by omega)]
 .rw[List.getElem?_eq_none (by rw[Nh];omega)]
theorem gB {N m:Nat}(h:N<2^(m+1))(hb:bit N m=false):N<2^m:=by
 have h1:=Mm N m;rw[Nat.mod_eq_of_lt h,hb]at h1
 simp only[Bool.false_eq_true,if_false,Nat.add_zero]at h1;rw[h1];exact Nat.mod_lt _ (Nat.pow_pos (by omega))
theorem aS {N m:Nat}(h:N<2^(m+1))(hb:bit N m=true):Ak N=m+1:=by
 refine Nat.le_antisymm ((Bq N _).2 h) ?_;refine eT ?_;unfold bit at hb;have h3:N/2^m%2=1:=by simpa using hb
 generalize N/2^m=z at *;omega
theorem Ff.take {w:World}{p:Option Addr}{n c:Nat}{xs:List Bool}(h:Ff w p n c xs)(m:Nat)(hm:m<=n):Ff w p m c (xs.take m):=by
 have hl:=h.len;refine⟨by simp;omega,Dm hm h.cap,h.max,?_⟩;rcases h.at_ with ⟨h1,h2,h3⟩|⟨b,off,h1,h2,h3⟩
 .exact .inl ⟨h1,by omega,h3⟩
 .refine .inr ⟨b,off,h1,h2,fun i x hx=>h3 i x ?_⟩;rw[List.getElem?_take]at hx
  split at hx
  .exact hx
  .cases hx
def dV (N:Nat)(p:Option Addr)(c:Nat)(w:World)(e:Ending)(w':World):Prop:=∃m,e=.returned (.slice p m c)/\Bt w p m c N/\w=w'
theorem Fm (w:World)(p:Option Addr)(n c N:Nat)(h:Ff w p n c (Ck N n))(hN:N<2^n) :
  Calls Tryz.prog 167 #[.slice p n c] w (dV N p c w):=by
 have hm:=h.max;have hcp:=h.cap;go_enter Tryz.func167,Tryz.ntmps167;go_wp2
 go_loop [0] (fun s=>∃k:Nat,k<=n/\s=.slice p k c/\Hid (N<2^k)) (fun s=>match s with | .slice _ k _=>k|_=>0)
 case atStart=>exact⟨n,Av _,rfl,Ag hN⟩
 case round=>
  obtain⟨k,hk,rfl,hv⟩:=hrel
  cases k with
  | zero=>
   have hN0:N=0:=by have:=hv.out;simp at this;omega
   have HN:=Ag hN0;clear hN0;go_wp2;go_ret;refine⟨0,rfl,?_,rfl⟩;have:=h.take 0 (by omega);rw[HN.out];exact this
  | succ m=>
   obtain⟨b,off,rfl,hb,hc⟩:=h.pos (by omega);obtain⟨x,hx⟩:∃x,bit N m=x:=⟨_,rfl⟩
   have hci:w.cell? ⟨b,off+m,none⟩=some (.bool x):=hc m x (by rw[Hx (by omega),hx]);have HX:=Ag hx;clear hc hx
   cases x with
   | false=>
    go_wp2;go_round
    case rel=>exact⟨m,by omega,rfl,Ag (gB hv.out HX.out)⟩
    case measure=>simp
   | true=>
    go_wp2;go_ret;have e:=aS hv.out HX.out;refine⟨m+1,rfl,?_,rfl⟩;have:=h.take (m+1) hk;rw[aU hk,<-e,<-iL]at this
    rw[<-e];exact this
theorem pS (xs:List Nat)(h:Bv xs):∀j,le xs/B8 j%256=xs.getD j 0:=by
 induction xs with
 | nil=>intro j;simp[le]
 | cons x xs ih=>
  have hx:x<256:=h x (by simp);have ih:=ih (fun y hy=>h y (by simp[hy]));intro j
  cases j with
  | zero=>simp only[le,Io,Nat.div_one,List.getD_cons_zero];omega
  | succ j=>
   simp only[le,Gp,List.getD_cons_succ];rw[<-Nat.div_div_eq_div_mul,show (x+256*le xs)/256=le xs by omega];exact ih j
theorem Er (N i:Nat):bit N i=N.testBit i:=by
 unfold bit;rw[Nat.testBit_eq_decide_div_mod_eq]
theorem mK {N j k x:Nat}(hx:N/B8 j%256=x)(hk:k<8):bit N (8*j+k)=decide (x/2^k%2=1):=by
 show _=bit x k;rw[Er,Er,<-hx,Ja,show (256:Nat)=2^8 from rfl,Nat.testBit_mod_two_pow,Nat.testBit_div_two_pow];simp[hk,Nat.add_comm]
theorem qG {bs:List Nat}(h:Bv bs){j k m:Nat}(hm:j+m+1=bs.length)(hk:k<8):bit (be bs) (8*j+k)=decide (bs.getD m 0/2^k%2=1):=by
 refine mK ?_ hk;unfold be;rw[pS _ h.reverse,Zq (by omega)]
 congr 1;omega
theorem Yx (w:World)(p:Option Addr)(n c:Nat)(bs:List Nat)(h:Ci w .u8 p n c bs)(hb8:Bv bs)(hn:n<=1000) :
  Calls Tryz.prog 111 #[.slice p n c] w (Hk (be bs) w):=by
 obtain⟨i0,hi,hz0,hz1,hz2⟩:=info_parts Tryz.info_bool;have HL:=Ag h.len;have hown:=World.ownsRow_made w (base:=w.heap.size) (e := 4) (size:=1) #[] 0 (Av _) (by simp[maxLen]) (by simp);obtain⟨N,hN⟩:∃N,be bs=N:=⟨_,rfl⟩
 have HN:=Ag hN;clear hN;go_enter Tryz.func111,Tryz.ntmps111;go_wp2
 go_loopw [3,4,5] (fun v i _ wr=>∃j m:Nat,j+m<=n/\n<=j+m/\i=.int .i64 ((m:Int)-1)/\wr.ownsRow w.heap.size 4 1 v (8*j) ((Ck N (8*j)).map Value.bool)/\Below w.heap.size w wr) (fun _ i _ _=>(intOf i+1).toNat)
 case atStart=>
  refine⟨0,n,by omega,by omega,rfl,?_,(Br _ _).alloc (Av _) _⟩;simpa [Ck]using hown
 case round=>
  obtain⟨j,m,hj1,hj2,rfl,ho,hbw⟩:=hrel
  cases m with
  | zero=>
   have hjn:j=n:=by omega
   have HJ:=Ag hjn;clear hjn;obtain⟨q,d,rfl,hrow,hnew⟩:=Ff.of_owns ho;have hlt:N<2^(8*j):=by
    have:=hb8.reverse.lt;rw[<-HN.out];unfold be;rw[Ja]at this
    rw[HJ.out,HL.out];simpa using this
   have HLT:=Ag hlt;clear hlt
   go_wp2_with fail
   refine(Fm wr q (8*j) d N hrow HLT.out).mono ?_;rintro e w1 ⟨m,rfl,hm,rfl⟩;go_wp2;go_ret;rw[HN.out];exact⟨q,m,d,rfl,hm,hbw,hnew⟩
  | succ m=>
   obtain⟨b,off,rfl,hb,hc⟩:=(h.row (by omega)).pos (by omega);obtain⟨x,hx⟩:∃x,bs.getD m 0=x:=⟨_,rfl⟩
   have hci:w.cell? ⟨b,off+m,none⟩=some (.int .u8 (x:Nat)):=hc m x (by rw[<-hx,Ex];simp[show m<bs.length by have:=HL.out;omega]);have hx8:x<256:=by rw[<-hx];exact hb8.get m
   have HX:=Ag hx;clear hc hx;have e1:(((m+1:Nat):Int)-1)=(m:Int):=by omega
   simp only[e1];clear e1;obtain⟨wo,rfl⟩:∃wo:World,wo=wr:=⟨_,rfl⟩
   go_wp2
   go_loopw [3,5] (fun v k wr=>∃q:Nat,q<=8/\k=.int .i64 q/\wr.ownsRow w.heap.size 4 1 v (8*j+q) ((Ck N (8*j+q)).map Value.bool)/\Below w.heap.size w wr) (fun _ k _=>8-(intOf k).toNat)
   case atStart=>exact⟨0,by omega,rfl,ho,hbw⟩
   case round=>
    obtain⟨q,hq,rfl,ho2,hbw2⟩:=hrel
    by_cases hq8:q<8
    .have hq8':q<8:=hq8;have hbt:bit N (8*j+q)=(((x:Int)/2^q).tmod 2==1):=by
      rw[<-HN.out,qG hb8 (m:=m) (by have:=HL.out;omega) hq8',HX.out,Bool.eq_iff_iff];have e:((x:Int)/2^q)=((x/2^q:Nat):Int):=by simp[Int.natCast_ediv]
      rw[e,Int.tmod_eq_emod_of_nonneg (Int.natCast_nonneg _)];simp only[decide_eq_true_eq,beq_iff_eq];omega
     have HB:=Ag hbt;clear hbt hq8';have hci2:wr.cell? ⟨b,off+m,none⟩=some (.int .u8 (x:Nat)):=by rw[(Co hbw2).1 _ _ hb];exact hci
     go_wp2_with (at_builtin;refine wpList_append_own _ rfl _ _ 28 rfl w.heap.size 4 i0 (.bool false) 1 1 Tryz.underlying28 hi hz0 hz1 hz2 rfl (by decide) _ _ _ rfl (ho2.alloc _) ⟨wr.heap.size,0,none⟩ 1 1 [.bool (((x:Int)/2^q).tmod 2==1)] rfl rfl ?c1 ?c2 ?c3 ?c4 ?c5 ?_)
     case c1=>
      intro jj u hj
      match jj,hj with
      | 0,hj=>simp at hj;subst hj;simp[Addr.add]
     case c2=>intro u hu;simp at hu;subst hu;rfl
     case c3=>unfold maxLen;omega
     case c4=>omega
     case c5=>have:=hbw2.size;simp;omega
     intro v' w1 ho' hg _;have hbw1:Below w.heap.size w w1:=(hbw2.alloc hbw2.size _).grown hg (by have:=hbw2.size;simp;omega) (fun j hj=>(ho2.lt j hj).1);have ho1:w1.ownsRow w.heap.size 4 1 v' (8*j+(q+1)) ((Ck N (8*j+(q+1))).map Value.bool):=by
      rw[<-Nat.add_assoc,Ep,List.map_append,HB.out];exact ho'
     clear ho' hg ho2;go_wp2;go_roundw
     case rel=>exact⟨q+1,by omega,by go_num,ho1,hbw1⟩
     case measure=>simp[intOf];omega
    .have hq9:q=8:=by omega
     subst hq9;go_wp2;go_roundw
     case rel=>exact⟨j+1,m,by omega,by omega,rfl,ho2,hbw2⟩
     case measure=>simp[intOf]
theorem qF {N i:Nat}(h:Ak N<=i):bit N i=false:=by
 have h1:N<2^i:=(Bq N i).1 h;unfold bit;rw[Nat.div_eq_of_lt h1];rfl
theorem Tg {N M:Nat}(h:Ak N<Ak M):N<M:=by
 rcases Nat.lt_or_ge N M with h1|h1
 .exact h1
 .have:Ak M<=Ak N:=(Bq M _).2 (Nat.lt_of_le_of_lt h1 (Ec N));omega
theorem Gm (N i:Nat):N/2^i=2*(N/2^(i+1))+(bit N i).toNat:=by
 rw[Nat.pow_succ,<-Nat.div_div_eq_div_mul];unfold bit;generalize N/2^i=z
 by_cases h:z%2=1
 .simp[h];omega
 .simp[h];omega
theorem Sq {N M i:Nat}(h:N/2^(i+1)=M/2^(i+1))(h1:bit N i=false)(h2:bit M i=true):N<M:=by
 have e1:=Gm N i;have e2:=Gm M i;rw[h1]at e1
 rw[h2]at e2
 rcases Nat.lt_or_ge N M with h3|h3
 .exact h3
 .have:=Nat.div_le_div_right (c:=2^i) h3;simp only[Bool.toNat_true,Bool.toNat_false]at e1 e2;omega
theorem Sy {N M i:Nat}(h:N/2^(i+1)=M/2^(i+1))(h1:bit N i=bit M i):N/2^i=M/2^i:=by
 rw[Gm N i,Gm M i,h,h1]
def nC (N M:Nat)(w:World)(e:Ending)(w':World):Prop:=e=.returned (.int .i64 (By N M))/\Below w.heap.size w w'
theorem Nk (w:World)(p:Option Addr)(n c N:Nat)(q:Option Addr)(m d M:Nat)(hA:Bt w p n c N)(hB:Bt w q m d M)(hn:n<=1000000000)(hm:m<=1000000000) :
  Calls Tryz.prog 51 #[.slice p n c,.slice q m d] w (nC N M w):=by
 have hl:n=Ak N:=by have:=hA.len;rwa [Bo]at this
 have hk:m=Ak M:=by have:=hB.len;rwa [Bo]at this
 have HN:=Ag hl;have HM:=Ag hk;clear hl hk
 by_cases h1:n<m
 .have HC:Hid (By N M = -1):=Ag (Dn (Tg (by rw[<-HN.out,<-HM.out];exact h1)));go_enter Tryz.func51,Tryz.ntmps51;go_wp2;go_ret;exact⟨by rw[HC.out];rfl,Br _ _⟩
 by_cases h2:m<n
 .have HC:Hid (By N M=1):=Ag (Hc (Tg (by rw[<-HN.out,<-HM.out];exact h2)));go_enter Tryz.func51,Tryz.ntmps51;go_wp2;go_ret;exact⟨by rw[HC.out];rfl,Br _ _⟩
 obtain rfl:n=m:=by omega
 clear h1 h2;have hlt:¬(n:Int)<n:=by omega
 go_enter Tryz.func51,Tryz.ntmps51;go_wp2
 go_loopw [5] (fun i wr=>∃k:Nat,k<=n/\i=.int .i64 ((k:Int)-1)/\Hid (N/2^k=M/2^k)/\Below w.heap.size w wr) (fun i _=>(intOf i+1).toNat)
 case atStart=>
  refine⟨n,Av _,rfl,Ag ?_,Br _ _⟩;rw[Nat.div_eq_of_lt ((Bq N n).1 (by rw[<-HN.out];exact Av _)),Nat.div_eq_of_lt ((Bq M n).1 (by rw[<-HM.out];exact Av _))]
 case round=>
  obtain⟨k,hk,rfl,hq,hbw⟩:=hrel
  cases k with
  | zero=>
   have HC:Hid (By N M=0):=Ag (by
    have:=hq.out;rw[Nat.pow_zero,Nat.div_one,Nat.div_one]at this
    rw[this];exact Rp _)
   go_wp2;go_ret;exact⟨by rw[HC.out];rfl,hbw⟩
  | succ k=>
   obtain⟨b,off,rfl,hb,hc⟩:=hA.pos (by omega);obtain⟨b2,off2,rfl,hb2,hc2⟩:=hB.pos (by omega);obtain⟨x,hx⟩:∃x,bit N k=x:=⟨_,rfl⟩
   obtain⟨y,hy⟩:∃y,bit M k=y:=⟨_,rfl⟩
   have hcx:wr.cell? ⟨b,off+k,none⟩=some (.bool x):=by
    rw[(Co hbw).1 _ _ hb];exact hc k x (by rw[Di (by rw[<-HN.out];omega),hx])
   have hcy:wr.cell? ⟨b2,off2+k,none⟩=some (.bool y):=by
    rw[(Co hbw).1 _ _ hb2];exact hc2 k y (by rw[Di (by rw[<-HM.out];omega),hy])
   have HX:=Ag hx;have HY:=Ag hy;have e1:(((k+1:Nat):Int)-1)=(k:Int):=by omega
   simp only[e1];clear hc hc2 hx hy e1;cases x<;>cases y
   .go_wp2
    go_quiet (fail)
    go_wp2;go_roundw
    case rel=>exact⟨k,by omega,rfl,Ag (Sy hq.out (by rw[HX.out,HY.out])),below_drewN hbw _⟩
    case measure=>simp[intOf]
   .have HC:Hid (By N M = -1):=Ag (Dn (Sq hq.out HX.out HY.out));go_wp2
    go_quiet (fail)
    go_wp2;go_ret;exact⟨by rw[HC.out];rfl,below_drewN hbw _⟩
   .have HC:Hid (By N M=1):=Ag (Hc (Sq hq.out.symm HY.out HX.out));go_wp2
    go_quiet (fail)
    go_wp2;go_ret;exact⟨by rw[HC.out];rfl,below_drewN hbw _⟩
   .go_wp2
    go_quiet (fail)
    go_wp2;go_roundw
    case rel=>exact⟨k,by omega,rfl,Ag (Sy hq.out (by rw[HX.out,HY.out])),below_drewN hbw _⟩
    case measure=>simp[intOf]
theorem Fc (w:World)(p:Option Addr)(n c N i:Nat)(h:Bt w p n c N)(hi:i<=1000000000000) :
  Calls Tryz.prog 200 #[.slice p n c,.int .i64 i] w fun e w'=>e=.returned (.int .i64 ((bit N i).toNat:Nat))/\w=w':=by
 have hl:n=Ak N:=by have:=h.len;rwa [Bo]at this
 have HN:=Ag hl;clear hl
 by_cases h1:i<n
 .obtain⟨b,off,rfl,hb,hc⟩:=h.pos (by omega);obtain⟨x,hx⟩:∃x,bit N i=x:=⟨_,rfl⟩
  have hcx:w.cell? ⟨b,off+i,none⟩=some (.bool x):=hc i x (by rw[Di (by rw[<-HN.out];omega),hx]);rw[hx];clear hc hx;cases x
  .go_enter Tryz.func200,Tryz.ntmps200;go_wp2;go_ret;exact⟨rfl,rfl⟩
  .go_enter Tryz.func200,Tryz.ntmps200;go_wp2;go_ret;exact⟨rfl,rfl⟩
 .rw[qF (by rw[<-HN.out];omega)];go_enter Tryz.func200,Tryz.ntmps200;go_wp2;go_ret;exact⟨rfl,rfl⟩
def carry (N M k:Nat):Nat:=(N%2^k+M%2^k)/2^k
theorem Lb (N k:Nat):N%2^(k+1)=N%2^k+2^k*(bit N k).toNat:=by
 rw[Mm];cases bit N k<;>simp
theorem qW (N M k:Nat):carry N M k<=1:=by
 have hp:0<2^k:=Nat.pow_pos (by omega);have h1:=Nat.mod_lt N hp;have h2:=Nat.mod_lt M hp;unfold carry;have:(N%2^k+M%2^k)/2^k<2:=by rw[Nat.div_lt_iff_lt_mul hp];omega
 omega
theorem dG (N M:Nat):carry N M 0=0:=by simp[carry,Nat.mod_one]
theorem dH (N M k:Nat):carry N M (k+1)=((bit N k).toNat+(bit M k).toNat+carry N M k)/2:=by
 have hp:0<2^k:=Nat.pow_pos (by omega);unfold carry;rw[Lb,Lb,Nat.pow_succ,<-Nat.div_div_eq_div_mul]
 congr 1
 rw[show N%2^k+2^k*(bit N k).toNat+(M%2^k+2^k*(bit M k).toNat)=2^k*((bit N k).toNat+(bit M k).toNat)+(N%2^k+M%2^k) by rw[Nat.mul_add];omega];rw[Nat.mul_add_div hp]
theorem oT (N M k:Nat):bit (N+M) k=decide (((bit N k).toNat+(bit M k).toNat+carry N M k)%2=1):=by
 have hp:0<2^k:=Nat.pow_pos (by omega);have e:(N+M)/2^k=N/2^k+M/2^k+carry N M k:=by
  unfold carry
  conv=>lhs;rw[<-Nat.div_add_mod N (2^k),<-Nat.div_add_mod M (2^k)]
  rw[show 2^k*(N/2^k)+N%2^k+(2^k*(M/2^k)+M%2^k)=2^k*(N/2^k+M/2^k)+(N%2^k+M%2^k) by rw[Nat.mul_add];omega];rw[Nat.mul_add_div hp]
 have e1:=Gm N k;have e2:=Gm M k;show decide ((N+M)/2^k%2=1)=_;rw[e,decide_eq_decide];omega
theorem iE {N M k:Nat}(h:0<carry N M k):k<=Ak N+Ak M:=by
 have hp:0<2^k:=Nat.pow_pos (by omega);unfold carry at h;have h1:=Nat.mod_le N (2^k);have h2:=Nat.mod_le M (2^k);have h3:2^k<=N%2^k+M%2^k:=by
  rcases Nat.lt_or_ge (N%2^k+M%2^k) (2^k) with h4|h4
  .rw[Nat.div_eq_of_lt h4]at h;omega
  .exact h4
 have h4:=Ec N;have h5:=Ec M;have h6:2^Ak N<=2^(Ak N+Ak M):=Nat.pow_le_pow_right (by omega) (by omega);have h7:2^Ak M<=2^(Ak N+Ak M):=Nat.pow_le_pow_right (by omega) (by omega);have h8:2^k<2^(Ak N+Ak M+1):=by rw[Nat.pow_succ];omega
 have:=(Nat.pow_lt_pow_iff_right (show 1<2 by omega)).1 h8;omega
theorem sum_lt {N M k:Nat}(h1:Ak N<=k)(h2:Ak M<=k)(h3:carry N M k=0):N+M<2^k:=by
 have hp:0<2^k:=Nat.pow_pos (by omega);have h4:=(Bq N k).1 h1;have h5:=(Bq M k).1 h2;unfold carry at h3;rw[Nat.mod_eq_of_lt h4,Nat.mod_eq_of_lt h5]at h3
 exact(Nat.div_eq_zero_iff.1 h3).resolve_left (by omega)
theorem Sf (w:World)(p:Option Addr)(n c N:Nat)(q:Option Addr)(m d M:Nat)(hA:Bt w p n c N)(hB:Bt w q m d M)(hn:n<=1000000)(hm:m<=1000000) :
  Calls Tryz.prog 151 #[.slice p n c,.slice q m d] w (Hk (N+M) w):=by
 obtain⟨i0,hi,hz0,hz1,hz2⟩:=info_parts Tryz.info_bool;have hl:n=Ak N:=by have:=hA.len;rwa [Bo]at this
 have hk:m=Ak M:=by have:=hB.len;rwa [Bo]at this
 have HN:=Ag hl;have HM:=Ag hk;clear hl hk;have hown:=World.ownsRow_made w (base:=w.heap.size) (e := 4) (size:=1) #[] 0 (Av _) (by simp[maxLen]) (by simp);go_enter Tryz.func151,Tryz.ntmps151;go_wp2
 go_loopw [5,6,7,8] (fun v cy i _ wr=>∃k x:Nat,k<=n+m+1/\i=.int .i64 k/\cy=.int .i64 x/\x<=1/\Hid (carry N M k=x)/\wr.ownsRow w.heap.size 4 1 v k ((Ck (N+M) k).map Value.bool)/\Below w.heap.size w wr) (fun _ _ i _ _=>n+m+2-(intOf i).toNat)
 case atStart=>
  refine⟨0,0,by omega,rfl,rfl,by omega,Ag (dG _ _),?_,(Br _ _).alloc (Av _) _⟩;simpa [Ck]using hown
 case round=>
  obtain⟨k,x,hk,rfl,rfl,hx1,hcy,ho,hbw⟩:=hrel;have hgo:(k<n ∨ k<m ∨ 0<x)->k<=n+m:=by
   rintro(h1|h1|h1)
   .omega
   .omega
   .have:=iE (N:=N) (M:=M) (k:=k) (by rw[hcy.out];exact h1);rw[<-HN.out,<-HM.out]at this;exact this
  have hstep:(k<=n+m)->True:=fun _=>trivial
  obtain⟨a,ha⟩:∃a,(bit N k).toNat=a:=⟨_,rfl⟩
  obtain⟨b,hb⟩:∃b,(bit M k).toNat=b:=⟨_,rfl⟩
  have ha1:a<=1:=by rw[<-ha];exact Bool.toNat_le _
  have hb1:b<=1:=by rw[<-hb];exact Bool.toNat_le _
  have hs:=oT N M k;have hc':=dH N M k;rw[ha,hb,hcy.out]at hs hc'
  have HS:=Ag hs;have HC:=Ag hc';have HA:=Ag ha;have HB:=Ag hb;have HE:Hid (¬(k<n ∨ k<m ∨ 0<x)->N+M<2^k):=Ag (fun h=>sum_lt (by rw[<-HN.out];omega) (by rw[<-HM.out];omega) (by rw[hcy.out];omega));have HG:=Ag hgo;clear hs hc' ha hb hgo hstep;have hin:Bt wr p n c N:=hA.below hbw;have hin2:Bt wr q m d M:=hB.below hbw;have HSI:Hid (bit (N+M) k=(((a:Int)+b+x)%2==1)):=Ag (by
   rw[HS.out,Bool.eq_iff_iff];simp only[decide_eq_true_eq,beq_iff_eq];omega)
  by_cases h1:k<n
  .have hkl:k<=n+m:=HG.out (.inl h1)
   go_wp2_with fail
   refine(Fc wr p n c N k hin (by omega)).mono ?_;rintro e w1 ⟨rfl,rfl⟩;rw[HA.out]
   go_wp2_with fail
   refine(Fc wr q m d M k hin2 (by omega)).mono ?_;rintro e w1 ⟨rfl,rfl⟩;rw[HB.out]
   go_wp2_with (at_builtin;refine wpList_append_own _ rfl _ _ 28 rfl w.heap.size 4 i0 (.bool false) 1 1 Tryz.underlying28 hi hz0 hz1 hz2 rfl (by decide) _ _ _ rfl (ho.alloc _) ⟨wr.heap.size,0,none⟩ 1 1 [.bool (((a:Int)+b+x)%2==1)] rfl rfl ?c1 ?c2 ?c3 ?c4 ?c5 ?_)
   case c1=>
    intro jj u hj
    match jj,hj with
    | 0,hj=>simp at hj;subst hj;simp[Addr.add]
   case c2=>intro u hu;simp at hu;subst hu;rfl
   case c3=>unfold maxLen;omega
   case c4=>omega
   case c5=>have:=hbw.size;simp;omega
   intro v' w1 ho' hg _;have hbw1:Below w.heap.size w w1:=(hbw.alloc hbw.size _).grown hg (by have:=hbw.size;simp;omega) (fun j hj=>(ho.lt j hj).1);have ho1:w1.ownsRow w.heap.size 4 1 v' (k+1) ((Ck (N+M) (k+1)).map Value.bool):=by
    rw[Ep,List.map_append,HSI.out];exact ho'
   clear ho' hg ho;go_wp2;go_roundw
   case rel=>exact⟨k+1,(a+b+x)/2,by omega,by go_num,by go_num,by omega,HC,ho1,hbw1⟩
   case measure=>simp[intOf];omega
  by_cases h2:k<m
  .have hkl:k<=n+m:=HG.out (.inr (.inl h2))
   go_wp2_with fail
   refine(Fc wr p n c N k hin (by omega)).mono ?_;rintro e w1 ⟨rfl,rfl⟩;rw[HA.out]
   go_wp2_with fail
   refine(Fc wr q m d M k hin2 (by omega)).mono ?_;rintro e w1 ⟨rfl,rfl⟩;rw[HB.out]
   go_wp2_with (at_builtin;refine wpList_append_own _ rfl _ _ 28 rfl w.heap.size 4 i0 (.bool false) 1 1 Tryz.underlying28 hi hz0 hz1 hz2 rfl (by decide) _ _ _ rfl (ho.alloc _) ⟨wr.heap.size,0,none⟩ 1 1 [.bool (((a:Int)+b+x)%2==1)] rfl rfl ?c1 ?c2 ?c3 ?c4 ?c5 ?_)
   case c1=>
    intro jj u hj
    match jj,hj with
    | 0,hj=>simp at hj;subst hj;simp[Addr.add]
   case c2=>intro u hu;simp at hu;subst hu;rfl
   case c3=>unfold maxLen;omega
   case c4=>omega
   case c5=>have:=hbw.size;simp;omega
   intro v' w1 ho' hg _;have hbw1:Below w.heap.size w w1:=(hbw.alloc hbw.size _).grown hg (by have:=hbw.size;simp;omega) (fun j hj=>(ho.lt j hj).1);have ho1:w1.ownsRow w.heap.size 4 1 v' (k+1) ((Ck (N+M) (k+1)).map Value.bool):=by
    rw[Ep,List.map_append,HSI.out];exact ho'
   clear ho' hg ho;go_wp2;go_roundw
   case rel=>exact⟨k+1,(a+b+x)/2,by omega,by go_num,by go_num,by omega,HC,ho1,hbw1⟩
   case measure=>simp[intOf];omega
  by_cases h3:0<x
  .have hkl:k<=n+m:=HG.out (.inr (.inr h3))
   go_wp2_with fail
   refine(Fc wr p n c N k hin (by omega)).mono ?_;rintro e w1 ⟨rfl,rfl⟩;rw[HA.out]
   go_wp2_with fail
   refine(Fc wr q m d M k hin2 (by omega)).mono ?_;rintro e w1 ⟨rfl,rfl⟩;rw[HB.out]
   go_wp2_with (at_builtin;refine wpList_append_own _ rfl _ _ 28 rfl w.heap.size 4 i0 (.bool false) 1 1 Tryz.underlying28 hi hz0 hz1 hz2 rfl (by decide) _ _ _ rfl (ho.alloc _) ⟨wr.heap.size,0,none⟩ 1 1 [.bool (((a:Int)+b+x)%2==1)] rfl rfl ?c1 ?c2 ?c3 ?c4 ?c5 ?_)
   case c1=>
    intro jj u hj
    match jj,hj with
    | 0,hj=>simp at hj;subst hj;simp[Addr.add]
   case c2=>intro u hu;simp at hu;subst hu;rfl
   case c3=>unfold maxLen;omega
   case c4=>omega
   case c5=>have:=hbw.size;simp;omega
   intro v' w1 ho' hg _;have hbw1:Below w.heap.size w w1:=(hbw.alloc hbw.size _).grown hg (by have:=hbw.size;simp;omega) (fun j hj=>(ho.lt j hj).1);have ho1:w1.ownsRow w.heap.size 4 1 v' (k+1) ((Ck (N+M) (k+1)).map Value.bool):=by
    rw[Ep,List.map_append,HSI.out];exact ho'
   clear ho' hg ho;go_wp2;go_roundw
   case rel=>exact⟨k+1,(a+b+x)/2,by omega,by go_num,by go_num,by omega,HC,ho1,hbw1⟩
   case measure=>simp[intOf];omega
  have hlt:=Ag (HE.out (by omega));obtain⟨q,d,rfl,hrow,hnew⟩:=Ff.of_owns ho
  go_wp2_with fail
  refine(Fm wr q k d (N+M) hrow hlt.out).mono ?_;rintro e w1 ⟨l,rfl,hm,rfl⟩;go_wp2;go_ret;exact⟨q,l,d,rfl,hm,hbw,hnew⟩
def Hu (N M k:Nat):Nat:=if N%2^k<M%2^k then 1 else 0
theorem aP (N M:Nat):Hu N M 0=0:=by simp[Hu,Nat.mod_one]
theorem aQ (N M k:Nat):Hu N M (k+1)=if (bit N k).toNat<(bit M k).toNat+Hu N M k then 1 else 0:=by
 have hp:0<2^k:=Nat.pow_pos (by omega);have h1:=Nat.mod_lt N hp;have h2:=Nat.mod_lt M hp;unfold Hu;rw[Lb,Lb];generalize N%2^k=n at *;generalize M%2^k=m at *;generalize 2^k=P at *
 by_cases hlt:n<m
 .rw[if_pos hlt];cases bit N k<;>cases bit M k<;>simp only[Bool.toNat_true,Bool.toNat_false,Nat.mul_zero,Nat.mul_one]
  .rw[if_pos (by omega),if_pos (by omega)]
  .rw[if_pos (by omega),if_pos (by omega)]
  .rw[if_neg (by omega),if_neg (by omega)]
  .rw[if_pos (by omega),if_pos (by omega)]
 .rw[if_neg hlt];cases bit N k<;>cases bit M k<;>simp only[Bool.toNat_true,Bool.toNat_false,Nat.mul_zero,Nat.mul_one]
  .rw[if_neg (by omega),if_neg (by omega)]
  .rw[if_pos (by omega),if_pos (by omega)]
  .rw[if_neg (by omega),if_neg (by omega)]
  .rw[if_neg (by omega),if_neg (by omega)]
theorem oN {N M k:Nat}(h:M<=N):(N-M)/2^k+M/2^k+Hu N M k=N/2^k:=by
 have hp:0<2^k:=Nat.pow_pos (by omega);have h1:=Nat.mod_lt N hp;have h2:=Nat.mod_lt M hp;have e1:=Nat.div_add_mod N (2^k);have e2:=Nat.div_add_mod M (2^k);unfold Hu;generalize N/2^k=A at *;generalize M/2^k=B at *;generalize N%2^k=n at *;generalize M%2^k=m at *;generalize 2^k=P at *;split
 .rename_i hlt
  have hAB:B+1<=A:=by
   rcases Nat.lt_or_ge B A with h3|h3
   .exact h3
   .have:=Nat.mul_le_mul_left P h3;omega
  obtain⟨E,rfl⟩:∃E,A=B+1+E:=⟨A-(B+1),by omega⟩
  have e3:N-M=P*E+(n+P-m):=by
   rw[Nat.mul_add,Nat.mul_add,Nat.mul_one]at e1
   omega
  rw[e3,Nat.mul_add_div hp,Nat.div_eq_of_lt (by omega)];omega
 .rename_i hlt
  have hAB:B<=A:=by
   rcases Nat.lt_or_ge A B with h3|h3
   .have:=Nat.mul_le_mul_left P (Nat.succ_le_of_lt h3);rw[Nat.succ_eq_add_one,Nat.mul_add,Nat.mul_one]at this
    omega
   .exact h3
  obtain⟨E,rfl⟩:∃E,A=B+E:=⟨A-B,by omega⟩
  have e3:N-M=P*E+(n-m):=by
   rw[Nat.mul_add]at e1
   omega
  rw[e3,Nat.mul_add_div hp,Nat.div_eq_of_lt (by omega)];omega
theorem oR {N M k:Nat}(h:M<=N):bit (N-M) k=decide (((bit N k).toNat+(bit M k).toNat+Hu N M k)%2=1):=by
 have e:=oN (k:=k) h;have e1:=Gm N k;have e2:=Gm M k;show decide ((N-M)/2^k%2=1)=_;rw[decide_eq_decide];omega
theorem Ni (w:World)(p:Option Addr)(n c N:Nat)(q:Option Addr)(m d M:Nat)(hA:Bt w p n c N)(hB:Bt w q m d M)(hn:n<=1000000)(hle:M<=N) :
  Calls Tryz.prog 198 #[.slice p n c,.slice q m d] w (Hk (N-M) w):=by
 obtain⟨i0,hi,hz0,hz1,hz2⟩:=info_parts Tryz.info_bool;have hl:n=Ak N:=by have:=hA.len;rwa [Bo]at this
 have HN:=Ag hl;clear hl;have hown:=World.ownsRow_made w (base:=w.heap.size) (e := 4) (size:=1) #[] 0 (Av _) (by simp[maxLen]) (by simp);go_enter Tryz.func198,Tryz.ntmps198;go_wp2
 go_loopw [5,6,7,8] (fun v cy i _ wr=>∃k x:Nat,k<=n/\i=.int .i64 k/\cy=.int .i64 x/\x<=1/\Hid (Hu N M k=x)/\wr.ownsRow w.heap.size 4 1 v k ((Ck (N-M) k).map Value.bool)/\Below w.heap.size w wr) (fun _ _ i _ _=>n-(intOf i).toNat)
 case atStart=>
  refine⟨0,0,by omega,rfl,rfl,by omega,Ag (aP _ _),?_,(Br _ _).alloc (Av _) _⟩;simpa [Ck]using hown
 case round=>
  obtain⟨k,x,hk,rfl,rfl,hx1,hcy,ho,hbw⟩:=hrel
  by_cases h1:k<n
  .obtain⟨a,ha⟩:∃a,(bit N k).toNat=a:=⟨_,rfl⟩
   obtain⟨b,hb⟩:∃b,(bit M k).toNat=b:=⟨_,rfl⟩
   have ha1:a<=1:=by rw[<-ha];exact Bool.toNat_le _
   have hb1:b<=1:=by rw[<-hb];exact Bool.toNat_le _
   have hs:=oR (k:=k) hle;have hc':=aQ N M k;rw[ha,hb,hcy.out]at hs hc'
   have HS:=Ag hs;have HA:=Ag ha;have HB:=Ag hb;have HC':=Ag hc';clear hs ha hb hc';have hin:Bt wr p n c N:=hA.below hbw;have hin2:Bt wr q m d M:=hB.below hbw
   by_cases hlt:a<b+x
   .have HC:Hid (Hu N M (k+1)=1):=Ag (by rw[HC'.out,if_pos hlt]);have HSI:Hid (bit (N-M) k=(((a:Int)-b-x+2)==1)):=Ag (by
     rw[HS.out,Bool.eq_iff_iff];simp only[decide_eq_true_eq,beq_iff_eq];omega)
    go_wp2_with fail
    refine(Fc wr p n c N k hin (by omega)).mono ?_;rintro e w1 ⟨rfl,rfl⟩;rw[HA.out]
    go_wp2_with fail
    refine(Fc wr q m d M k hin2 (by omega)).mono ?_;rintro e w1 ⟨rfl,rfl⟩;rw[HB.out]
    go_wp2_with (at_builtin;refine wpList_append_own _ rfl _ _ 28 rfl w.heap.size 4 i0 (.bool false) 1 1 Tryz.underlying28 hi hz0 hz1 hz2 rfl (by decide) _ _ _ rfl (ho.alloc _) ⟨wr.heap.size,0,none⟩ 1 1 [.bool (((a:Int)-b-x+2)==1)] rfl rfl ?c1 ?c2 ?c3 ?c4 ?c5 ?_)
    case c1=>
     intro jj u hj
     match jj,hj with
     | 0,hj=>simp at hj;subst hj;simp[Addr.add]
    case c2=>intro u hu;simp at hu;subst hu;rfl
    case c3=>unfold maxLen;omega
    case c4=>omega
    case c5=>have:=hbw.size;simp;omega
    intro v' w1 ho' hg _;have hbw1:Below w.heap.size w w1:=(hbw.alloc hbw.size _).grown hg (by have:=hbw.size;simp;omega) (fun j hj=>(ho.lt j hj).1);have ho1:w1.ownsRow w.heap.size 4 1 v' (k+1) ((Ck (N-M) (k+1)).map Value.bool):=by
     rw[Ep,List.map_append,HSI.out];exact ho'
    clear ho' hg ho;go_wp2;go_roundw
    case rel=>exact⟨k+1,1,by omega,rfl,rfl,by omega,HC,ho1,hbw1⟩
    case measure=>simp[intOf];omega
   .have HC:Hid (Hu N M (k+1)=0):=Ag (by rw[HC'.out,if_neg hlt]);have HSI:Hid (bit (N-M) k=(((a:Int)-b-x)==1)):=Ag (by
     rw[HS.out,Bool.eq_iff_iff];simp only[decide_eq_true_eq,beq_iff_eq];omega)
    go_wp2_with fail
    refine(Fc wr p n c N k hin (by omega)).mono ?_;rintro e w1 ⟨rfl,rfl⟩;rw[HA.out]
    go_wp2_with fail
    refine(Fc wr q m d M k hin2 (by omega)).mono ?_;rintro e w1 ⟨rfl,rfl⟩;rw[HB.out]
    go_wp2_with (at_builtin;refine wpList_append_own _ rfl _ _ 28 rfl w.heap.size 4 i0 (.bool false) 1 1 Tryz.underlying28 hi hz0 hz1 hz2 rfl (by decide) _ _ _ rfl (ho.alloc _) ⟨wr.heap.size,0,none⟩ 1 1 [.bool (((a:Int)-b-x)==1)] rfl rfl ?c1 ?c2 ?c3 ?c4 ?c5 ?_)
    case c1=>
     intro jj u hj
     match jj,hj with
     | 0,hj=>simp at hj;subst hj;simp[Addr.add]
    case c2=>intro u hu;simp at hu;subst hu;rfl
    case c3=>unfold maxLen;omega
    case c4=>omega
    case c5=>have:=hbw.size;simp;omega
    intro v' w1 ho' hg _;have hbw1:Below w.heap.size w w1:=(hbw.alloc hbw.size _).grown hg (by have:=hbw.size;simp;omega) (fun j hj=>(ho.lt j hj).1);have ho1:w1.ownsRow w.heap.size 4 1 v' (k+1) ((Ck (N-M) (k+1)).map Value.bool):=by
     rw[Ep,List.map_append,HSI.out];exact ho'
    clear ho' hg ho;go_wp2;go_roundw
    case rel=>exact⟨k+1,0,by omega,rfl,rfl,by omega,HC,ho1,hbw1⟩
    case measure=>simp[intOf];omega
  .have HK:Hid (k=n):=Ag (by omega);have hlt:Hid (N-M<2^k):=Ag (by
    have:=(Bq N k).1 (by rw[<-HN.out];exact Nat.le_of_eq HK.out.symm);omega)
   obtain⟨q,d,rfl,hrow,hnew⟩:=Ff.of_owns ho
   go_wp2_with fail
   refine(Fm wr q k d (N-M) hrow hlt.out).mono ?_;rintro e w1 ⟨l,rfl,hm,rfl⟩;go_wp2;go_ret;exact⟨q,l,d,rfl,hm,hbw,hnew⟩
end Go.Proofs.YtnbmfaihlefgfaaGreatDoor
