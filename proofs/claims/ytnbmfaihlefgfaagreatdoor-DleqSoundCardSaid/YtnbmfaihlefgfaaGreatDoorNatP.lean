/- The document's number as bytes. -/
import Derived.Test.YtnbmfaihlefgfaaGreatDoorNatN
set_option maxRecDepth 1000000
set_option maxHeartbeats 16000000
set_option linter.all false
namespace Go.Proofs.YtnbmfaihlefgfaaGreatDoor
open Go Go.RowKit Go.Proofs.YtnbmfaihlefgfaaGreatDoor.Flow
def Eh (N n:Nat):List Nat:=(List.range n).map fun i=>N/B8 i%256
def Ar (N n:Nat):List Nat:=(Eh N n).reverse
def Al (N:Nat):Nat:=(Ax N+7)/8
theorem Co (N n:Nat):(Eh N n).length=n:=by simp[Eh]
theorem Pk (N n:Nat):Eh N (n+1)=Eh N n++[N/B8 n%256]:=by simp[Eh,List.range_succ]
theorem Dx (N n:Nat):Ay (Eh N n):=by
 intro x hx;simp only[Eh,List.mem_map]at hx;obtain⟨j,_,rfl⟩:=hx;exact Nat.mod_lt _ (by omega)
theorem Fb (N:Nat):N<B8 (Al N):=by
 rw[Hb];refine(Bo N _).1 ?_;unfold Al;omega
theorem Hz {N n:Nat}:Al N<=n ↔ N<B8 n:=by
 rw[Hb,<-Bo];unfold Al;omega
theorem kF {N k n:Nat}(h:N<B8 k)(hk:k<=n):Eh N k++List.replicate (n-k) 0=Eh N n:=by
 obtain⟨d,rfl⟩:∃d,n=k+d:=⟨n-k,by omega⟩
 rw[Nat.add_sub_cancel_left];clear hk
 induction d with
 | zero=>simp
 | succ d ih=>
  rw[List.replicate_succ',<-List.append_assoc,ih,<-Nat.add_assoc,Pk]
  congr 2
  have:B8 k<=B8 (k+d):=Gq (by omega);rw[Nat.div_eq_of_lt (by omega)]
theorem Rj (N:Nat):∀n,le (Eh N n)=N%B8 n
 | 0=>by simp[Eh,le,Io,Nat.mod_one]
 | n+1=>by rw[Pk,dV,Co,Rj N n,Gp,Nat.mul_comm 256,Nat.mod_mul]
theorem Qi (l:List Nat)(k x:Nat)(hk:k<l.length):l.reverse.set (l.length-1-k) x=(l.set k x).reverse:=by
 apply List.ext_getElem (by simp);intro i h1 h2;simp only[List.length_set,List.length_reverse]at h1;rw[List.getElem_set,List.getElem_reverse,List.getElem_reverse,List.getElem_set];simp only[List.length_set]
 by_cases h:l.length-1-k=i
 .rw[if_pos h,if_pos (by omega)]
 .rw[if_neg h,if_neg (by omega)]
theorem Xn {N q r:Nat}(hr:r<4):N/Ap q%4294967296/B8 r%256=N/B8 (4*q+r)%256:=by
 have e:(4294967296:Nat)=B8 r*(256*B8 (3-r)):=by
  rw[<-Gp,<-dP,show r+(3-r+1)=4 by omega];rfl
 rw[e,Nat.mod_mul_right_div_self,Nat.mod_mul_right_mod,Nat.div_div_eq_div_mul,dP,Mq]
theorem Jt (w:World)(p:Option Addr)(n c N:Nat)(h:Aj w p n c N)(hn:n<1000000)(hN:Ax N<=1000000000) :
  Calls Tryz.prog 150 #[.agg #[.slice p n c]] w fun e w'=>e=.returned (.int .i64 (Al N:Nat))/\Below w.heap.size w w':=by
 have hbx:=Dg.mk1 w (.slice p n c) 36;obtain⟨k,hk⟩:∃k,Ax N=k:=⟨_,rfl⟩
 have HK:Hid (Al N=(k+7)/8):=by rw[<-hk];rfl
 go_enter Tryz.func150,Tryz.ntmps150
 go_wp2_with fail
 refine(En _ p n c N (h.below hbx.bel) hn).mono ?_;rintro e w1 ⟨rfl,hb1⟩;rw[hk]at hN
 simp only[hk];clear hk;go_wp2;go_ret;refine⟨?_,(hbx.later hb1).bel⟩;rw[HK.out];exact congrArg (fun z=>Ending.returned (.int .i64 z)) (by omega)
def Nr (N:Nat)(size:Int)(w:World)(e:Ending)(w':World):Prop :=
 ∃q n d k,e=.returned (.tuple #[.slice q n d,.int .i64 k])/\Row w' .u8 q n d (if size<0 then [] else if size<Al N then [] else Ar N size.toNat) /\
  (k=if size<0 then 1 else if size<Al N then 2 else 0)/\Below w.heap.size w w'/\Fh w.heap.size q
theorem Pr (w:World)(p:Option Addr)(n c N s:Nat)(h:Aj w p n c N)(hn:n<1000000)(hN:Ax N<=1000000000)(hs:(s:Int)<=1000000)(h2:¬(s:Int)<Al N) :
  Calls Tryz.prog 149 #[.agg #[.slice p n c],.int .i64 s] w fun e w'=>∃g,e=.returned (.tuple #[.slice (some ⟨g,0,none⟩) s s,.int .i64 0])/\Bl w' g 5 .u8 (Ar N s)/\Below w.heap.size w w'/\w.heap.size<=g:=by
 have hbx:=Dg.mk1 w (.slice p n c) 36;have h1:¬(s:Int)<0:=by omega
 obtain⟨m,hm⟩:∃m,Al N=m:=⟨_,rfl⟩
 have HM:Hid (∀k,m<=k ↔ N<B8 k):=fun k=>by rw[<-hm];exact Hz
 rw[hm]at h2
 obtain⟨ws,r1,r2,r3,r4⟩:=h.ex;have hmk:=Oi s (by omega);have hms:m<=s:=by omega
 have HR4:=Ah r4;go_enter Tryz.func149,Tryz.ntmps149
 go_wp2_with fail
 refine(Jt _ p n c N (h.below hbx.bel) hn hN).mono ?_;rintro e w1 ⟨rfl,hb1⟩;simp only[hm];clear hm r4;have hbx1:=hbx.later hb1;have hz1:w.heap.size<w1.heap.size:=hbx1.size;go_wp2
 go_loopw [24] (fun i wr=>∃k:Nat,k<=m/\i=.int .i64 k/\Dg w wr (.slice p n c)/\w1.heap.size<wr.heap.size/\Below w1.heap.size w1 wr/\Bl wr w1.heap.size 5 .u8 ((Eh N k++List.replicate (s-k) 0).reverse)) (fun i _=>m-(intOf i).toNat)
 case atStart=>
  refine⟨0,by omega,rfl,hbx1.alloc _,by simp,(Bd _ _).alloc (As _) _,?_⟩;have:=Bl.zeros w1 5 .u8 s;simpa [Eh]using this
 case round=>
  obtain⟨k,hk,rfl,hbr,hsz,hbw,hblk⟩:=hrel;have c0:=hbr.c0
  by_cases hkm:k<m
  .have hkn:k/4<n:=by
    rcases Nat.lt_or_ge (k/4) n with h3|h3
    .exact h3
    .exfalso;have h4:=r2.lt;rw[<-r1.len]at h4
     have h5:N<B8 k:=by
      have:Ap n<=B8 k:=by rw[<-Mq];exact Gq (by omega)
      have:=HR4.out;omega
     have h6:=(HM.out k).2 h5;omega
   obtain⟨b,off,rfl,hb,hc⟩:=r1.pos (by omega);obtain⟨x,hx⟩:∃x,ws.getD (k/4) 0=x:=⟨_,rfl⟩
   have hci:wr.cell? ⟨b,off+k/4,none⟩=some (.int .u32 (x:Nat)):=by
    rw[(Bz hbr.bel).1 _ _ hb];exact hc _ x (by rw[<-hx,Ed];simp[show k/4<ws.length by have:=r1.len;omega])
   have hx1:x<4294967296:=by rw[<-hx];exact r2.get _
   have hlen:(Eh N k++List.replicate (s-k) 0).length=s:=by rw[List.length_append,Co,List.length_replicate];omega
   have hcl:wr.cell? ⟨w1.heap.size,s-1-k,none⟩=some (.int .u8 (((Eh N k++List.replicate (s-k) 0).reverse.getD (s-1-k) 0:Nat))):=hblk.cell (by
    rw[Ed];have:s-1-k<(Eh N k++List.replicate (s-k) 0).reverse.length:=by rw[List.length_reverse,hlen];omega
    simp only[List.getElem?_eq_getElem this,Option.getD_some])
   have hfr:=hblk.free (s-1-k);have hbyte:x/2^(k%4*8)%256=N/B8 k%256:=by
    have hd:=digit ws r2 (k/4);rw[HR4.out,hx]at hd
    rw[<-hd,Nat.mul_comm (k%4) 8,<-Hb,Xn (Nat.mod_lt _ (by omega))]
    congr 3;omega
   have hset:Hid (Bl (wr.setCell ⟨w1.heap.size,s-1-k,none⟩ (.int .u8 ((N/B8 k%256:Nat)))) w1.heap.size 5 .u8 ((Eh N (k+1)++List.replicate (s-(k+1)) 0).reverse)):=by
    have h5:=hblk.set (s-1-k) (N/B8 k%256);have h6:=Qi (Eh N k++List.replicate (s-k) 0) k (N/B8 k%256) (by rw[hlen];omega);rw[hlen]at h6
    rw[h6]at h5
    have h7:s-k=(s-(k+1))+1:=by omega
    have h8:(Eh N k++List.replicate (s-k) 0).set k (N/B8 k%256)=Eh N (k+1)++List.replicate (s-(k+1)) 0:=by
     rw[h7,Pk];have:=Md (Eh N k) (s-(k+1)) (N/B8 k%256);rw[Co]at this
     exact this
    rw[h8]at h5
    exact h5
   have HX:=Ah hx;have HB:=Ah hbyte;have hk3:k%4<4:=Nat.mod_lt _ (by omega);clear hc hx hbyte hlen;go_wp2;go_roundw
   case rel=>
    have e:((x:Int)/2^(k%4*8)%256)=((N/B8 k%256:Nat):Int):=by
     rw[<-HB.out];simp
    rw[e];exact⟨k+1,by omega,by go_num,hbr.below (B:=w.heap.size+1) ((Bd _ _).setCell (by simp;omega) _) (As _),by simpa using hsz,hbw.setCell (by simp) _,hset.out⟩
   case measure=>simp[intOf];omega
  .have hkm':m<=k:=by omega
   rw[kF ((HM.out k).1 hkm') (by omega)]at hblk
   have HRow:Hid (Bl wr w1.heap.size 5 .u8 (Ar N s)):=hblk;have hbel:=hbr.bel;go_wp2
   go_ret2
   exact⟨_,rfl,HRow.out,hbel,Nat.le_of_lt hz1⟩
theorem aG (w:World)(p:Option Addr)(n c N:Nat)(size:Int)(h:Aj w p n c N)(hn:n<1000000)(hN:Ax N<=1000000000)(hs:size<=1000000)(hs0:-9223372036854775808<=size) :
  Calls Tryz.prog 149 #[.agg #[.slice p n c],.int .i64 size] w (Nr N size w):=by
 have hbx:=Dg.mk1 w (.slice p n c) 36
 by_cases h1:size<0
 .have HG:Hid (∀w',Below w.heap.size w w'->Nr N size w (.returned (.tuple #[.slice none 0 0,.int .i64 1])) w'):=fun w' hb=>⟨none,0,0,1,rfl,by rw[if_pos h1];exact Row.nil _ _,by rw[if_pos h1],hb,Fh.none _⟩
  go_enter Tryz.func149,Tryz.ntmps149
  go_wp2_with fail
  refine(Jt _ p n c N (h.below hbx.bel) hn hN).mono ?_;rintro e w1 ⟨rfl,hb1⟩;go_wp2
  go_ret2
  exact HG.out _ (hbx.later hb1).bel
 .by_cases h2:size<Al N
  .have HG:Hid (∀w',Below w.heap.size w w'->Nr N size w (.returned (.tuple #[.slice none 0 0,.int .i64 2])) w'):=fun w' hb=>⟨none,0,0,2,rfl,by rw[if_neg h1,if_pos h2];exact Row.nil _ _,by rw[if_neg h1,if_pos h2],hb,Fh.none _⟩
   go_enter Tryz.func149,Tryz.ntmps149
   go_wp2_with fail
   refine(Jt _ p n c N (h.below hbx.bel) hn hN).mono ?_;rintro e w1 ⟨rfl,hb1⟩;go_wp2
   go_ret2
   exact HG.out _ (hbx.later hb1).bel
  .obtain⟨s,rfl⟩:=Int.eq_ofNat_of_zero_le (show 0<=size by omega);refine(Pr w p n c N s h hn hN hs h2).mono ?_;rintro e w' ⟨g,rfl,hb,hbel,hg⟩;have hl:(Ar N s).length=s:=by rw[Ar,List.length_reverse,Co]
   exact⟨some ⟨g,0,none⟩,s,s,0,rfl,by rw[if_neg h1,if_neg h2];exact hb.row hl.symm (As _) (by omega),by rw[if_neg h1,if_neg h2],hbel,fun q hq=>by cases hq;exact hg⟩
def Di (bs:List Nat)(B:Nat)(v:Value)(w:World):Prop:=∃q n d,v=.slice q n d/\Row w .u8 q n d bs/\Fh B q
theorem Di.below {bs:List Nat}{B:Nat}{v:Value}{w w':World}(h:Di bs B v w)(hb:Below w.heap.size w w'):Di bs B v w' :=
 let ⟨q,n,d,h1,h2,h3⟩:=h
 ⟨q,n,d,h1,h2.below hb,h3⟩
theorem Qo (w:World)(p:Option Addr)(n c N:Nat)(h:Aj w p n c N)(hn:n<1000000)(hN:Ax N<=1000000) :
  Calls Tryz.prog 96 #[.agg #[.slice p n c]] w fun e w'=>∃v,e=.returned v/\Di (Ar N (Al N)) w.heap.size v w'/\Below w.heap.size w w':=by
 have hbx:=Dg.mk1 w (.slice p n c) 36;have hbs:Al N<=1000000:=by unfold Al;omega
 go_enter Tryz.func96,Tryz.ntmps96;go_wp2;refine Ai (by kernel_rfl) (by kernel_rfl)
  [some (.agg #[.slice p n c]),some (.agg #[.slice p n c]),none,none,none,none,none,none,none]
  [false,false,true,true,true,true,true,true,true] rfl
  (fun w1 w2=>Below w1.heap.size w1 w2)
  (fun _ w'=>Dg w w' (.slice p n c))
  (fun i v w'=>match i with
   | 2=>v=.int .i64 (Al N:Nat)
   | 3|4=>∃u,v=.tuple #[u,.int .i64 0]/\Di (Ar N (Al N)) w.heap.size u w'
   | 5|7=>Di (Ar N (Al N)) w.heap.size v w'
   | _=>v=.int .i64 0)
  ?_ (hbx.below (Bd _ _).drew (As _)) ?_ ?_
 .intro i v w1 w2 hf hb;split at hf
  .exact hf
  .exact hf.imp fun u h=>⟨h.1,h.2.below hb⟩
  .exact hf.imp fun u h=>⟨h.1,h.2.below hb⟩
  .exact hf.below hb
  .exact hf.below hb
  .exact hf
 .simp only[Ba,Nat.reduceAdd];refine⟨?_,?_,?_,?_,?_,?_,?_,?_,?_,trivial⟩
  case refine_3=>
   intro D sp w' hD hW hdp hbx'
   (with_reducible refine Ab (w1:=w') (f := 150) (args:=#[.agg #[.slice p n c]]) ?_ ?_ ?_)
   .simp only[Region.wanted]
   .simp[Act.eval,Act.put,go_sem]
   .refine(Jt w' p n c N (h.below hbx'.bel) hn (by omega)).mono ?_;rintro e w2 ⟨rfl,hb⟩;exact⟨_,rfl,hb,rfl,hbx'.later hb⟩
  case refine_4=>
   intro D sp w' hD hW hdp hbx';have h2:sp 2=.int .i64 (Al N:Nat):=(hdp 2 (mq (by kernel_rfl))).2
   (with_reducible refine Ab (w1:=w') (f := 149) (args:=#[.agg #[.slice p n c],.int .i64 (Al N:Nat)]) ?_ ?_ ?_)
   .simp only[Region.wanted]
   .simp[Act.eval,Act.put,go_sem,h2]
   .refine(aG w' p n c N (Al N:Nat) (h.below hbx'.bel) hn (by omega) (by omega) (by omega)).mono ?_;rintro e w2 ⟨q,m,d,k,rfl,hrow,hk,hb,hq⟩;have e1:¬((Al N:Nat):Int)<0:=by omega
    have e2:¬((Al N:Nat):Int)<Al N:=by omega
    rw[if_neg e1,if_neg e2]at hrow hk
    rw[hk];exact⟨_,rfl,hb,⟨_,rfl,q,m,d,rfl,hrow,hq.mono hbx'.bel.size⟩,hbx'.later hb⟩
  case refine_5=>
   intro D sp w' hD hW hdp hbx';have hx:∃u,sp 3=.tuple #[u,.int .i64 0]/\Di (Ar N (Al N)) w.heap.size u w':=(hdp 3 (mq (by kernel_rfl))).2
   (with_reducible refine Aq hx fun u hu=>?_)
   have h1:=hu.1;have h2:=hu.2
   (with_reducible refine Ag (w1:=w') (v:=.tuple #[u,.int .i64 0]) ?_ ?_ ?_)
   .simp only[Region.wanted]
   .simp[execOp,Act.eval,Act.put,go_sem,h1]
   .exact⟨Bd _ _,⟨u,rfl,h2⟩,hbx'⟩
  case refine_6=>
   intro D sp w' hD hW hdp hbx';have hx:∃u,sp 4=.tuple #[u,.int .i64 0]/\Di (Ar N (Al N)) w.heap.size u w':=(hdp 4 (mq (by kernel_rfl))).2
   (with_reducible refine Aq hx fun u hu=>?_)
   have h1:=hu.1;have h2:=hu.2
   (with_reducible refine Ag (w1:=w') (v:=u) ?_ ?_ ?_)
   .simp only[Region.wanted]
   .simp[execOp,Act.eval,Act.put,go_sem,h1]
   .exact⟨Bd _ _,h2,hbx'⟩
  case refine_7=>
   intro D sp w' hD hW hdp hbx';have hx:∃u,sp 4=.tuple #[u,.int .i64 0]/\Di (Ar N (Al N)) w.heap.size u w':=(hdp 4 (mq (by kernel_rfl))).2
   (with_reducible refine Aq hx fun u hu=>?_)
   have h1:=hu.1;have h2:=hu.2
   (with_reducible refine Ag (w1:=w') (v:=.int .i64 0) ?_ ?_ ?_)
   .simp only[Region.wanted]
   .simp[execOp,Act.eval,Act.put,go_sem,h1]
   .exact⟨Bd _ _,rfl,hbx'⟩
  case refine_8=>
   intro D sp w' hD hW hdp hbx';have h2:Di (Ar N (Al N)) w.heap.size (sp 5) w':=(hdp 5 (mq (by kernel_rfl))).2
   (with_reducible refine Ag (w1:=w') (v:=sp 5) ?_ ?_ ?_)
   .simp only[Region.wanted]
   .simp[execOp,Act.eval,Act.put,go_sem]
   .exact⟨Bd _ _,h2,hbx'⟩
  case refine_9=>
   intro D sp w' hD hW hdp hbx';have h2:sp 6=.int .i64 0:=(hdp 6 (mq (by kernel_rfl))).2
   (with_reducible refine Ag (w1:=w') (v:=.int .i64 0) ?_ ?_ ?_)
   .simp only[Region.wanted]
   .simp[execOp,Act.eval,Act.put,go_sem,h2]
   .exact⟨Bd _ _,rfl,hbx'⟩
  all_goals
   intro D sp w' hD hW hdp hbx';have c0:=hbx'.c0;simp[asked,Region.wanted,Oper.gives,execOp,Act.eval,Act.put,go_sem,c0]
 .intro sp w' hsp hbx';have h7:Di (Ar N (Al N)) w.heap.size (sp 7) w':=hsp 7 rfl;clear hsp;simp only[Am,Nat.reduceAdd];generalize sp 7=u at *
  go_simp
  go_wp2;go_ret;exact⟨_,rfl,h7,hbx'.bel⟩
theorem gI (V n:Nat):Eh V (n+1)=(V%256)::Eh (V/256) n:=by
 simp[Eh,List.range_succ_eq_map,Function.comp_def,Gp,Io,Nat.div_div_eq_div_mul]
theorem dW:∀(xs:List Nat),Ay xs->Eh (le xs) xs.length=xs
 | [],_=>by simp[Eh]
 | x::xs,h=>by
  have hx:x<256:=h x (by simp);have e:=dW xs (fun y hy=>h y (by simp[hy]));rw[List.length_cons,gI];simp only[le];rw[show (x+256*le xs)%256=x by omega,show (x+256*le xs)/256=le xs by omega,e]
theorem kE:∀(xs:List Nat) (q d:Nat),q<xs.length->le (xs.set q (xs.getD q 0+d))=le xs+B8 q*d
 | x::xs,0,d,_=>by simp[le,Io];omega
 | x::xs,q+1,d,h=>by
  have e:=kE xs q d (by simpa using h);simp only[List.set_cons_succ,le,List.getD_cons_succ,Gp];rw[e,Nat.mul_add,Nat.mul_assoc];omega
theorem Zd {V n j:Nat}(h:j<n):(Eh V n)[j]? = some (V/B8 j%256):=by simp[Eh,h]
theorem gF {V n j:Nat}(h:j<n):(Eh V n).getD j 0=V/B8 j%256:=by rw[Ed,Zd h];rfl
theorem Sq {M k n:Nat}(hM:M<2^k)(hk:k/8<n) :
  M/B8 (k/8)%256<2^(k%8)/\(Eh M n).set (k/8) (M/B8 (k/8)%256+2^(k%8))=Eh (M+2^k) n:=by
 have e2:2^k=B8 (k/8)*2^(k%8):=by
  rw[Hb,<-Nat.pow_add,Nat.div_add_mod]
 have hlt:M/B8 (k/8)<2^(k%8):=by
  rw[Nat.div_lt_iff_lt_mul (dO _),Nat.mul_comm,<-e2];exact hM
 have hp:2^(k%8)<=2^7:=Nat.pow_le_pow_right (by omega) (by omega);have hmod:M/B8 (k/8)%256<2^(k%8):=Nat.lt_of_le_of_lt (Nat.mod_le _ _) hlt;refine⟨hmod,?_⟩;have hset:=kE (Eh M n) (k/8) (2^(k%8)) (by rw[Co];exact hk);rw[gF hk,<-e2]at hset
 have hM8:M<B8 n:=by
  rw[Hb];exact De hM (Nat.pow_le_pow_right (by omega) (by omega))
 rw[Rj,Nat.mod_eq_of_lt hM8]at hset
 have hb:Ay ((Eh M n).set (k/8) (M/B8 (k/8)%256+2^(k%8))):=by
  intro y hy;rcases List.mem_or_eq_of_mem_set hy with h|rfl
  .exact Dx M n y h
  .omega
 have:=dW _ hb;rw[hset,List.length_set,Co]at this
 exact this.symm
theorem aN {M k n j:Nat}(hM:M<2^k)(hk:k/8<n)(hj:j=n-1-k/8) :
  (Ar M n).set j (M/B8 (k/8)%256+2^(k%8))=Ar (M+2^k) n:=by
 subst hj;have:=Qi (Eh M n) (k/8) (M/B8 (k/8)%256+2^(k%8)) (by rw[Co];exact hk);rw[Co]at this
 unfold Ar;rw[this,(Sq hM hk).2]
theorem aM {M n j q:Nat}(hq:q<n)(hj:j=n-1-q):(Ar M n)[j]? = some (M/B8 q%256):=by
 subst hj;unfold Ar;rw[List.getElem?_reverse (by rw[Co];omega),Co,show n-1-(n-1-q)=q by omega,Zd hq]
theorem Vo (n:Nat):Ar 0 n=List.replicate n 0:=by
 unfold Ar Eh;apply List.ext_getElem (by simp);intro i h1 h2;simp
theorem Bp (M n:Nat):(Ar M n).length=n:=by simp[Ar,Co]
def pA (N s:Nat)(w:World)(e:Ending)(w':World):Prop:=∃v,e=.returned (.tuple #[v,.bool (decide (Al N<=s))]) /\
 Di (if Al N<=s then Ar N s else []) w.heap.size v w'/\Below w.heap.size w w'
theorem Wf (w:World)(p:Option Addr)(n c N s:Nat)(h:Bn w p n c N)(hs:s<=1000000)(hN:Ax N<=1000000000) :
  Calls Tryz.prog 95 #[.slice p n c,.int .i64 s] w (pA N s w):=by
 have hl:n=Ax N:=by have:=h.len;rwa [Bf]at this
 by_cases h2:s<Al N
 .have hd:decide (Al N<=s)=false:=by simp;omega
  have h3:(s:Int)<((n:Int)+7)/8:=by unfold Al at h2;omega
  have hw7:IntKind.i64.wrap ((n:Int)+7)=(n:Int)+7:=IntWalk.i64_in _ (by omega);have hw8:IntKind.i64.wrap (((n:Int)+7)/8)=((n:Int)+7)/8:=IntWalk.i64_in _ (by omega);have hw9:wrap64 (((n:Int)+7).tdiv 8)=((n:Int)+7)/8:=by
   rw[Int.tdiv_eq_ediv_of_nonneg (by omega)];exact IntWalk.wrap64_in _ (by omega)
  have H2:=Ah h2;have HD:=Ah hd;clear hl h2 hd;go_enter Tryz.func95,Tryz.ntmps95;go_wp2
  go_ret2
  refine⟨.slice none 0 0,by simp[HD.out],?_,Bd _ _⟩;rw[if_neg (by have:=H2.out;omega)];exact⟨none,0,0,rfl,Row.nil _ _,Fh.none _⟩
 .have hd:decide (Al N<=s)=true:=by simp;omega
  have hmk:=Oi s (by omega);have hsn:n<=8*s:=by unfold Al at h2;omega
  have h3:¬(s:Int)<((n:Int)+7)/8:=by omega
  have hw7:IntKind.i64.wrap ((n:Int)+7)=(n:Int)+7:=IntWalk.i64_in _ (by omega);have hw8:IntKind.i64.wrap (((n:Int)+7)/8)=((n:Int)+7)/8:=IntWalk.i64_in _ (by omega);have H2:=Ah h2;have HD:=Ah hd;have HL:=Ah hl;have hn9:n<=1000000000:=by omega
  clear hl h2 hd;go_enter Tryz.func95,Tryz.ntmps95;go_wp2
  go_loopw [19] (fun i wr=>∃k:Nat,k<=n/\i=.int .i64 k/\w.heap.size<wr.heap.size/\Below w.heap.size w wr/\Bl wr w.heap.size 5 .u8 (Ar (N%2^k) s)) (fun i _=>n-(intOf i).toNat)
  case atStart=>
   refine⟨0,by omega,rfl,by simp,(Bd _ _).alloc (As _) _,?_⟩;have:=Bl.zeros w 5 .u8 s;rw[Nat.pow_zero,Nat.mod_one,Vo];exact this
  case round=>
   obtain⟨k,hk,rfl,hsz,hbw,hblk⟩:=hrel
   by_cases hkn:k<n
   .obtain⟨b,off,rfl,hb,hc⟩:=h.pos (by omega);obtain⟨x,hx⟩:∃x,bit N k=x:=⟨_,rfl⟩
    have hci:wr.cell? ⟨b,off+k,none⟩=some (.bool x):=by
     rw[(Bz hbw).1 _ _ hb];exact hc k x (by rw[Do (by rw[<-HL.out];exact hkn),hx])
    have HX:=Ah hx;clear hc hx;go_wp2
    .have hxt:x=true:=by assumption
     have HB:Hid (N%2^(k+1)=N%2^k+2^k):=Ah (by rw[Mi,HX.out,if_pos hxt]);have hMk:N%2^k<2^k:=Nat.mod_lt _ (Nat.pow_pos (by omega));obtain⟨q,hq⟩:∃q,k/8=q:=⟨_,rfl⟩
     obtain⟨r,hr⟩:∃r,k%8=r:=⟨_,rfl⟩
     have hqs:q<s:=by omega
     obtain⟨j,hj⟩:∃j,s-1-q=j:=⟨_,rfl⟩
     obtain⟨z,hz⟩:∃z,2^r=z:=⟨_,rfl⟩
     have hset:=aN (n:=s) hMk (by omega) (j:=j) (by omega);have hget:=aM (M:=N%2^k) hqs hj.symm;have hlt:=(Sq (n:=s) hMk (by omega)).1;rw[hq,hr]at hset hlt
     obtain⟨d,hd⟩:∃d,N%2^k/B8 q%256=d:=⟨_,rfl⟩
     rw[hd]at hset hget hlt
     rw[hz]at hset hlt
     have hr8:r<8:=by omega
     have hz8:z<=128:=by rw[<-hz];exact Nat.pow_le_pow_right (show 0<2 by omega) (show r<=7 by omega)
     have t1:IntKind.i64.wrap ((k:Int)/8)=(q:Int):=by rw[IntWalk.i64_in _ (by omega)];omega
     have t2:(k:Int).tmod 8=(r:Int):=by rw[Int.tmod_eq_emod_of_nonneg (by omega)];omega
     have t4:IntKind.i64.wrap ((s:Int)-1)=(s:Int)-1:=IntWalk.i64_in _ (by omega);have t5:IntKind.i64.wrap ((s:Int)-1-q)=(j:Nat):=by
      rw[IntWalk.i64_in _ (by omega)];omega
     have t6:(j:Int)<s:=by omega
     have t7:j<s:=by omega
     have t8:IntKind.u8.wrap ((d:Int)+z)=(d:Int)+z:=IntWalk.u8_in _ (by omega);have t9:IntKind.u8.wrap ((2:Int)^r)=z:=by
      rw[show ((2:Int)^r)=(z:Nat) by rw[<-hz,Int.natCast_pow];rfl];exact IntWalk.u8_in _ (by omega)
     clear hq hr hd hj hMk;have HJ:=Ah hz;clear hz;refine Ai (by kernel_rfl) (by kernel_rfl)
      [some (.slice (some ⟨w.heap.size,0,none⟩) s s),some (.int .i64 s),some (.int .i64 ((s:Int)-1)),some (.int .i64 k),some (.int .i64 (q:Nat)),some (.int .i64 (j:Nat)),some (.pointer (some ⟨w.heap.size,j,none⟩)),some (.int .u8 (d:Nat)),
       some (.int .i64 k),some (.int .i64 (r:Nat)),some (.int .u8 (z:Nat)),some (.int .u8 (d+z:Nat)),some (.pointer (some ⟨w.heap.size,j,none⟩)),none]
      [false,false,false,false,false,false,false,false,false,false,false,false,false,true] rfl
      (fun _ _=>True)
      (fun D w'=>Below w.heap.size w w'/\w.heap.size<w'.heap.size/\Bl w' w.heap.size 5 .u8 (if D 13 then Ar (N%2^k+2^k) s else Ar (N%2^k) s))
      (fun _ _ _=>True)
      (fun _ _ _ _ h _=>h) ⟨hbw.trans ((Bd _ _).drew.mono (As _)),hsz,hblk⟩ ?_ ?_
     .simp only[Ba,Nat.reduceAdd];refine⟨?_,?_,?_,?_,?_,?_,?_,?_,?_,?_,?_,?_,?_,?_,trivial⟩
      case refine_8=>
       intro D sp w' hD hW hdp ⟨hb',hsz',hblk'⟩;have h13:D 13=false:=hW 13 (mq (by kernel_rfl));rw[h13]at hblk'
       simp only[Bool.false_eq_true,if_false]at hblk';have hcl:w'.cell? ⟨w.heap.size,j,none⟩=some (.int .u8 (d:Nat)):=hblk'.cell hget;simp[asked,Region.wanted,Oper.gives,execOp,Act.eval,Act.put,go_sem,hcl]
      case refine_14=>
       intro D sp w' hD hW hdp ⟨hb',hsz',hblk'⟩;rw[hD]at hblk'
       simp only[Bool.false_eq_true,if_false]at hblk';have hcl:w'.cell? ⟨w.heap.size,j,none⟩=some (.int .u8 (d:Nat)):=hblk'.cell hget;have hfr:=hblk'.free j
       (with_reducible refine An (w1:=w'.setCell ⟨w.heap.size,j,none⟩ (.int .u8 (d+z:Nat))) ?_ ?_ ?_)
       .simp only[Region.wanted]
       .simp[execOp,Act.eval,Act.put,go_sem,hcl,hfr]
       .refine⟨trivial,trivial,hb'.setCell (As _) _,by simpa using hsz',?_⟩;simp only[decide_true,Bool.or_true,if_true];rw[<-hset];exact hblk'.set _ _
      all_goals
       intro D sp w' hD hW hdp ⟨hb',hsz',hblk'⟩;simp[asked,Region.wanted,Oper.gives,execOp,Act.eval,Act.put,go_sem,t1,t2,t4,t5,t6,t8,t9]
     .intro sp w' hsp ⟨hb',hsz',hblk'⟩;have hblk2:Bl w' w.heap.size 5 .u8 (Ar (N%2^k+2^k) s):=hblk';clear hblk' hsp t1 t2 t4 t5 t6 t8 t9;simp only[Am,Nat.reduceAdd]
      go_simp
      go_wp2;go_roundw
      case rel=>exact⟨k+1,by omega,by go_num,hsz',hb',by rw[HB.out];exact hblk2⟩
      case measure=>simp[intOf];omega
    .have hxt:x=false:=by assumption
     have HB:Hid (N%2^(k+1)=N%2^k):=Ah (by rw[Mi,HX.out,if_neg (by simp[hxt]),Nat.add_zero]);go_roundw
     case rel=>exact⟨k+1,by omega,by go_num,hsz,hbw,by rw[HB.out];exact hblk⟩
     case measure=>simp[intOf];omega
   .have HK:Hid (k=n):=Ah (by omega);go_wp2
    go_ret2
    refine⟨.slice (some ⟨w.heap.size,0,none⟩) s s,by simp[HD.out],?_,hbw⟩;rw[if_pos (by have:=H2.out;omega)];have e:N%2^k=N:=Nat.mod_eq_of_lt ((Bo N k).1 (by rw[HK.out,HL.out];exact As _));rw[e]at hblk
    exact⟨_,s,s,rfl,hblk.row (by rw[Bp]) (As _) (by omega),fun q hq=>by cases hq;exact As _⟩
end Go.Proofs.YtnbmfaihlefgfaaGreatDoor
