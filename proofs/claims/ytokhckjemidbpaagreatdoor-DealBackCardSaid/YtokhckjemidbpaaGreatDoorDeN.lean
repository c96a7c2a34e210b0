/- Any threshold of shares tells everything; sums of dealings; over numbers. Of no program (stage 14). -/
import Derived.Test.YtokhckjemidbpaaGreatDoorDeB
set_option maxRecDepth 1000000
set_option maxHeartbeats 16000000
set_option linter.all false
namespace Go.Proofs.YtokhckjemidbpaaGreatDoor
open Go Go.RowKit Go.Proofs.YtokhckjemidbpaaGreatDoor.Flow
theorem Vh {w:World}{b P Q GG HH e n c:Nat}{p:Option Addr}{Cs:List Nat}(hg:Au w b P Q GG HH)(h:Aq w e p n c Cs)(he:e<=200)(hn:1<=n/\n<=64)(hm:Cs.all (Ov P Q)=true) :
  Calls Tryz.prog 105 #[.pointer (some ⟨b,0,none⟩),.int .i64 (n:Nat),.slice p n c] w fun en w'=>en=.returned (.bool true)/\Below w.heap.size w w':=by
 have HG:=Ab hg;have HC:=Ab h;have HM:=Ab hm;have HJ:Aa (decide (1<=(n:Int)/\(n:Int)<=64)=true):=⟨decide_eq_true (by omega)⟩
 have he2:e<=30000:=by omega
 clear hg h hm hn;go_enter Tryz.func105,Tryz.ntmps105
 go_wp2_with fail
 refine(Ct _ HJ.out).mono ?_;rintro en w1 ⟨rfl,b1⟩;have HG1:=Ab (HG.out.below b1);have HC1:=Ab (HC.out.below b1);have HB1:=Ab b1;clear b1 HG HC
 go_wp2_with fail
 refine(Wh HG1.out HC1.out he2).mono ?_;rintro en w2 ⟨rfl,b2⟩;rw[HM.out];have HB2:=Ab (Ae HB1.out b2);clear b2;go_wp2;go_ret;exact⟨rfl,HB2.out⟩
def Ht (P Q G H:Nat)(cs:List Nat)(j s r:Nat):Bool:=decide (s<Q)&&(decide (r<Q)&&decide (Fz P Q G H s r=Lo P (j%Q) cs))
theorem Rl {w:World}{b P Q GG HH es er e n c j S R:Nat}{p:Option Addr}{Cs:List Nat}{x y:P3}(hg:Au w b P Q GG HH)(hx:Cr w x S)(lx:S<An es)(hy:Cr w y R)(ly:R<An er)(h:Aq w e p n c Cs)(hes:es<=200)(her:er<=200)(he:e<=200)(hn:n<=1000000)(hj:1<=j/\j<=64) :
  Calls Tryz.prog 110 #[.agg #[.slice x.1 x.2.1 x.2.2,.slice y.1 y.2.1 y.2.2],.pointer (some ⟨b,0,none⟩),.slice p n c,.int .i64 (j:Nat)] w fun en w'=>en=.returned (.bool (Ht P Q GG HH Cs j S R))/\Below w.heap.size w w':=by
 have hb2:=Bx.made 75 w (.slice x.1 x.2.1 x.2.2) (.slice y.1 y.2.1 y.2.2);have hb0:Below w.heap.size w (w.alloc (.cells #[.slice x.1 x.2.1 x.2.2,.slice y.1 y.2.1 y.2.2] 75)):=Bq;obtain⟨wa,hwa⟩:∃wa,w.alloc (.cells #[.slice x.1 x.2.1 x.2.2,.slice y.1 y.2.1 y.2.2] 75)=wa:=⟨_,rfl⟩
 rw[hwa]at hb2 hb0
 have HX:=Ab hb2;have HB0:=Ab hb0;have HG:=Ab (hg.below hb0);have HC:=Ab (h.below hb0);have HS:Aa (Cr wa x S):=⟨hx.below hb0⟩
 have HR:Aa (Cr wa y R):=⟨hy.below hb0⟩
 have HLS:=Ab lx;have HLR:=Ab ly;have HJ:Aa (decide (1<=(j:Int)/\(j:Int)<=64)=true):=⟨decide_eq_true (by omega)⟩
 have HJ2:Aa (j<=1000000):=⟨by omega⟩
 obtain⟨RES,hRES⟩:∃B,Ht P Q GG HH Cs j S R=B:=⟨_,rfl⟩
 obtain⟨ANS,hANS⟩:∃B,decide (Fz P Q GG HH S R=Lo P (j%Q) Cs)=B:=⟨_,rfl⟩
 have HAN:=Ab hANS;rw[hRES];obtain⟨IF,hIF⟩:∃B,(decide (S<Q)&&decide (R<Q))=B:=⟨_,rfl⟩
 have HE:Aa (RES=(IF&&ANS)):=⟨by rw[<-hRES,<-hIF,<-hANS];unfold Ht;rw[Bool.and_assoc]⟩
 have HIF:=Ab hIF;clear hb2 hb0 hg h hx hy lx ly hj hRES hANS hIF;go_enter Tryz.func110,Tryz.ntmps110
 cases IF with
 | true=>
 have HET:Aa (RES=ANS):=⟨by rw[HE.out,Bool.true_and]⟩
 go_wp2;refine Ak (by kernel_rfl) (by kernel_rfl)
  [some (.int .i64 (j:Nat)),none,some (.bool true),some (.agg #[.slice x.1 x.2.1 x.2.2,.slice y.1 y.2.1 y.2.2]),some (.pointer (some ⟨b,0,none⟩)),none,some (.bool true),some (.bool true),some (.pointer (some ⟨b,0,none⟩)),some (.slice p n c),some (.int .i64 (j:Nat)),none,some (.pointer (some ⟨w.heap.size,0,none⟩)),some (.agg #[.slice x.1 x.2.1 x.2.2]),some (.pointer (some ⟨w.heap.size,1,none⟩)),some (.agg #[.slice y.1 y.2.1 y.2.2]),none,some (.bool ANS),some (.bool ANS)]
  [false,true,false,false,false,true,false,false,false,false,false,true,false,false,false,false,true,false,false] rfl
  (fun w1 w2=>Below w1.heap.size w1 w2)
  (fun _ w'=>Below wa.heap.size wa w')
  (fun i v w'=>match i with
   | 1=>v=.bool true
   | 5=>v=.bool true
   | 11=>Fit 2 j v w'
   | 16=>v=.bool ANS
   | _=>True)
  ?_ (Ba _ _).drew ?_ ?_
 .intro i v w1 w2 hf hb;split at hf
  .exact hf
  .exact hf
  .exact hf.below hb
  .exact hf
  .trivial
 .simp only[Be,Nat.reduceAdd];refine⟨?_,?_,?_,?_,?_,?_,?_,?_,?_,?_,?_,?_,?_,?_,?_,?_,?_,?_,?_,trivial⟩
  all_goals intro D sp w' hD hW hdp hbx'
  case refine_2=>
   (with_reducible refine Ac (w1:=w') (f := 99) (args:=#[.int .i64 (j:Nat)]) ?_ ?_ ?_)
   .simp[Region.wanted,yielded,Act.put,go_sem]
   .simp[Act.eval,Act.put,go_sem]
   .refine(Ct _ HJ.out).mono ?_;rintro en w9 ⟨rfl,hb⟩;exact⟨_,rfl,hb,rfl,Ae hbx' hb⟩
  case refine_3=>
   have k1:(sp 1)=.bool true:=(hdp 1 (mq (by kernel_rfl))).2
   with_reducible refine Ad ?_ ?_
   all_goals simp[Region.wanted,yielded,execOp,Act.eval,Act.put,go_sem,k1]
  case refine_4=>
   have c0:=(HX.out.below hbx' HX.out.lt).cells.1;have c1:=(HX.out.below hbx' HX.out.lt).cells.2
   with_reducible refine Ad ?_ ?_
   all_goals simp[Region.wanted,yielded,execOp,Act.eval,Act.put,go_sem,c0,c1]
  case refine_6=>
   (with_reducible refine Ac (w1:=w') (f := 120) (args:=#[.agg #[.slice x.1 x.2.1 x.2.2,.slice y.1 y.2.1 y.2.2],.pointer (some ⟨b,0,none⟩)]) ?_ ?_ ?_)
   .simp[Region.wanted,yielded,Act.put,go_sem]
   .simp[Act.eval,Act.put,go_sem]
   .refine(Qa (oM.of (HG.out.below hbx')) (HS.out.below hbx') HLS.out (HR.out.below hbx') HLR.out hes her HIF.out).mono ?_;rintro en w9 ⟨rfl,hb⟩;exact⟨_,rfl,hb,rfl,Ae hbx' hb⟩
  case refine_7=>
   have k5:(sp 5)=.bool true:=(hdp 5 (mq (by kernel_rfl))).2
   with_reducible refine Ad ?_ ?_
   all_goals simp[Region.wanted,yielded,execOp,Act.eval,Act.put,go_sem,k5]
  case refine_12=>
   (with_reducible refine Ac (w1:=w') (f := 101) (args:=#[.int .i64 (j:Nat)]) ?_ ?_ ?_)
   .simp[Region.wanted,yielded,Act.put,go_sem]
   .simp[Act.eval,Act.put,go_sem]
   .refine(Jz _ HJ2.out).mono ?_;rintro en w9 ⟨u,rfl,hu,hb⟩;exact⟨u,rfl,hb,hu,Ae hbx' hb⟩
  case refine_14=>
   have c0:=(HX.out.below hbx' HX.out.lt).cells.1
   with_reducible refine Ad ?_ ?_
   all_goals simp[Region.wanted,yielded,execOp,Act.eval,Act.put,go_sem,c0]
  case refine_16=>
   have c1:=(HX.out.below hbx' HX.out.lt).cells.2
   with_reducible refine Ad ?_ ?_
   all_goals simp[Region.wanted,yielded,execOp,Act.eval,Act.put,go_sem,c1]
  case refine_17=>
   have k11:Fit 2 j (sp 11) w':=(hdp 11 (mq (by kernel_rfl))).2
   (with_reducible refine Ac (w1:=w') (f := 171) (args:=#[.pointer (some ⟨b,0,none⟩),.slice p n c,sp 11,.agg #[.slice x.1 x.2.1 x.2.2],.agg #[.slice y.1 y.2.1 y.2.2]]) ?_ ?_ ?_)
   .simp[Region.wanted,yielded,Act.put,go_sem]
   .simp[Act.eval,Act.put,go_sem]
   .refine(fR (HG.out.below hbx') (HC.out.below hbx') k11 (Fit.of (HS.out.below hbx') HLS.out) (Fit.of (HR.out.below hbx') HLR.out) he (by decide) hes her hn rfl rfl HAN.out).mono ?_;rintro en w9 ⟨_,rfl,rfl,hb⟩;exact⟨_,rfl,hb,rfl,Ae hbx' hb⟩
  case refine_18=>
   have k16:(sp 16)=.bool ANS:=(hdp 16 (mq (by kernel_rfl))).2
   with_reducible refine Ad ?_ ?_
   all_goals simp[Region.wanted,yielded,execOp,Act.eval,Act.put,go_sem,k16]
  all_goals ((with_reducible refine Ad ?_ ?_);all_goals first|(simp only[Region.wanted];done)|simp[Region.wanted,yielded,execOp,Act.eval,Act.put,go_sem])
 .intro sp w9 hsp hbx';have HB9:=Ab (Ae HB0.out hbx');clear hsp hbx';simp only[Al,Nat.reduceAdd];generalize sp 1=y1,sp 5=y5,sp 11=y11,sp 16=y16 at *
  go_simp
  go_wp2;go_ret;exact⟨by rw[HET.out];rfl,HB9.out⟩
 | false=>
 have HET:Aa (RES=false):=⟨by rw[HE.out,Bool.false_and]⟩
 go_wp2;refine Ak (by kernel_rfl) (by kernel_rfl)
  [some (.int .i64 (j:Nat)),none,some (.bool true),some (.agg #[.slice x.1 x.2.1 x.2.2,.slice y.1 y.2.1 y.2.2]),some (.pointer (some ⟨b,0,none⟩)),none,some (.bool false),some (.bool false),some (undef),some (undef),some (undef),some (undef),some (undef),some (undef),some (undef),some (undef),some (undef),some (.bool false),some (.bool false)]
  [false,true,false,false,false,true,false,false,false,false,false,false,false,false,false,false,false,false,false] rfl
  (fun w1 w2=>Below w1.heap.size w1 w2)
  (fun _ w'=>Below wa.heap.size wa w')
  (fun i v w'=>match i with
   | 1=>v=.bool true
   | 5=>v=.bool false
   | _=>True)
  ?_ (Ba _ _).drew ?_ ?_
 .intro i v w1 w2 hf hb;split at hf
  .exact hf
  .exact hf
  .trivial
 .simp only[Be,Nat.reduceAdd];refine⟨?_,?_,?_,?_,?_,?_,?_,?_,?_,?_,?_,?_,?_,?_,?_,?_,?_,?_,?_,trivial⟩
  all_goals intro D sp w' hD hW hdp hbx'
  case refine_2=>
   (with_reducible refine Ac (w1:=w') (f := 99) (args:=#[.int .i64 (j:Nat)]) ?_ ?_ ?_)
   .simp[Region.wanted,yielded,Act.put,go_sem]
   .simp[Act.eval,Act.put,go_sem]
   .refine(Ct _ HJ.out).mono ?_;rintro en w9 ⟨rfl,hb⟩;exact⟨_,rfl,hb,rfl,Ae hbx' hb⟩
  case refine_3=>
   have k1:(sp 1)=.bool true:=(hdp 1 (mq (by kernel_rfl))).2
   with_reducible refine Ad ?_ ?_
   all_goals simp[Region.wanted,yielded,execOp,Act.eval,Act.put,go_sem,k1]
  case refine_4=>
   have c0:=(HX.out.below hbx' HX.out.lt).cells.1;have c1:=(HX.out.below hbx' HX.out.lt).cells.2
   with_reducible refine Ad ?_ ?_
   all_goals simp[Region.wanted,yielded,execOp,Act.eval,Act.put,go_sem,c0,c1]
  case refine_6=>
   (with_reducible refine Ac (w1:=w') (f := 120) (args:=#[.agg #[.slice x.1 x.2.1 x.2.2,.slice y.1 y.2.1 y.2.2],.pointer (some ⟨b,0,none⟩)]) ?_ ?_ ?_)
   .simp[Region.wanted,yielded,Act.put,go_sem]
   .simp[Act.eval,Act.put,go_sem]
   .refine(Qa (oM.of (HG.out.below hbx')) (HS.out.below hbx') HLS.out (HR.out.below hbx') HLR.out hes her HIF.out).mono ?_;rintro en w9 ⟨rfl,hb⟩;exact⟨_,rfl,hb,rfl,Ae hbx' hb⟩
  case refine_7=>
   have k5:(sp 5)=.bool false:=(hdp 5 (mq (by kernel_rfl))).2
   with_reducible refine Ad ?_ ?_
   all_goals simp[Region.wanted,yielded,execOp,Act.eval,Act.put,go_sem,k5]
  case refine_9|refine_10|refine_11|refine_12|refine_13|refine_14|refine_15|refine_16|refine_17=>
   (with_reducible refine Ex ?_ ?_)
   ·(simp[Region.wanted,yielded,Act.put,go_sem]<;>exact fun h=>by cases h)
   .exact⟨rfl,rfl⟩
  all_goals ((with_reducible refine Ad ?_ ?_);all_goals first|(simp only[Region.wanted];done)|simp[Region.wanted,yielded,execOp,Act.eval,Act.put,go_sem])
 .intro sp w9 hsp hbx';have HB9:=Ab (Ae HB0.out hbx');clear hsp hbx';simp only[Al,Nat.reduceAdd];generalize sp 1=y1,sp 5=y5 at *
  go_simp
  go_wp2;go_ret;exact⟨by rw[HET.out];rfl,HB9.out⟩
theorem aN {w:World}{b P Q GG HH es er e n c j S R:Nat}{p:Option Addr}{Cs:List Nat}{x y:P3}(hg:Au w b P Q GG HH)(hx:Cr w x S)(lx:S<An es)(hy:Cr w y R)(ly:R<An er)(h:Aq w e p n c Cs)(hes:es<=200)(her:er<=200)(he:e<=200)(hn:1<=n/\n<=64)(hm:Cs.all (Ov P Q)=true)(hj:1<=j/\j<=64) :
  Calls Tryz.prog 52 #[.pointer (some ⟨b,0,none⟩),.int .i64 (n:Nat),.slice p n c,.int .i64 (j:Nat),.agg #[.slice x.1 x.2.1 x.2.2,.slice y.1 y.2.1 y.2.2]] w fun en w'=>en=.returned (.bool (Ht P Q GG HH Cs j S R))/\Below w.heap.size w w':=by
 have hb2:=Bx.made 75 w (.slice x.1 x.2.1 x.2.2) (.slice y.1 y.2.1 y.2.2);have hb0:Below w.heap.size w (w.alloc (.cells #[.slice x.1 x.2.1 x.2.2,.slice y.1 y.2.1 y.2.2] 75)):=Bq;obtain⟨wa,hwa⟩:∃wa,w.alloc (.cells #[.slice x.1 x.2.1 x.2.2,.slice y.1 y.2.1 y.2.2] 75)=wa:=⟨_,rfl⟩
 rw[hwa]at hb2 hb0
 have HX:=Ab hb2;have HB0:=Ab hb0;have HG:=Ab (hg.below hb0);have HC:=Ab (h.below hb0);have HS:Aa (Cr wa x S):=⟨hx.below hb0⟩
 have HR:Aa (Cr wa y R):=⟨hy.below hb0⟩
 have HLS:=Ab lx;have HLR:=Ab ly;have HJ:=Ab hj;have HM:=Ab hm;have HN:=Ab hn;obtain⟨RES,hRES⟩:∃B,Ht P Q GG HH Cs j S R=B:=⟨_,rfl⟩
 have HRES:=Ab hRES;rw[hRES];clear hb2 hb0 hg h hx hy lx ly hj hn hm hRES;go_enter Tryz.func52,Tryz.ntmps52
 go_wp2_with fail
 refine(Vh HG.out HC.out he HN.out HM.out).mono ?_;rintro en w1 ⟨rfl,b1⟩;have HX1:=Ab (HX.out.later b1);have HG1:=Ab (HG.out.below b1);have HC1:=Ab (HC.out.below b1);have HS1:Aa (Cr w1 x S):=⟨HS.out.below b1⟩
 have HR1:Aa (Cr w1 y R):=⟨HR.out.below b1⟩
 have HB1:=Ab (Ae HB0.out b1);obtain⟨c0,c1⟩:=HX1.out.cells;clear b1 HX HG HC HS HR HB0 hwa
 go_wp2_with fail
 refine(Rl HG1.out HS1.out HLS.out HR1.out HLR.out HC1.out hes her he (by have:=HN.out;omega) HJ.out).mono ?_;rintro en w2 ⟨rfl,b2⟩;rw[HRES.out];have HB2:=Ab (Ae HB1.out b2);clear b2 c0 c1;go_wp2;go_ret;exact⟨rfl,HB2.out⟩
theorem mem_pl {P Q G H s r:Nat}(hP:2<=P)(hQ:1<=Q)(hG:G^Q%P=1%P)(hH:H^Q%P=1%P):Ov P Q (Fz P Q G H s r)=true:=by
 have h1:(Fz P Q G H s r)^Q%P=1:=by
  rw[Um hG hH,<-Nat.pow_mod,Nat.mul_pow,<-Nat.pow_mul,<-Nat.pow_mul,Nat.mul_comm s,Nat.mul_comm r,Nat.pow_mul,Nat.pow_mul,Nat.mul_mod,Nat.pow_mod (G^Q),Nat.pow_mod (H^Q),hG,hH,<-Nat.pow_mod,<-Nat.pow_mod,Nat.one_pow,Nat.one_pow,<-Nat.mul_mod,Nat.mod_eq_of_lt (by omega)]
 unfold Ov;refine decide_eq_true ⟨?_,eJ (by omega),h1⟩;rcases Nat.eq_zero_or_pos (Fz P Q G H s r) with h|h
 .rw[h,Nat.zero_pow (by omega),Nat.zero_mod]at h1
  omega
 .exact h
theorem Ut {P Q G H:Nat}{vs ms:List Nat}(hP:2<=P)(hQ:1<=Q)(hG:G^Q%P=1%P)(hH:H^Q%P=1%P):(Cw P Q G H vs ms).all (Ov P Q)=true:=by
 rw[List.all_eq_true];intro c hc;unfold Cw at hc;obtain⟨p,_,rfl⟩:=List.mem_map.1 hc;exact mem_pl hP hQ hG hH
theorem cJ {P Q G H j:Nat}{vs ms:List Nat}(hP:2<=P)(hQ:2<=Q)(hG:G^Q%P=1%P)(hH:H^Q%P=1%P):Ht P Q G H (Cw P Q G H vs ms) j (Bp Q j vs) (Bp Q j ms)=true:=by
 unfold Ht;rw[Un hP hQ hG hH,decide_eq_true (Fa hQ _),decide_eq_true (Fa hQ _),decide_eq_true rfl];rfl
theorem dQ {P Q G H AT BY T:Nat}{vs ms:List Nat}{LL:List (Int×Nat)}(hQ:Bf Q)(hP:2<=P)(hG:G^Q%P=1%P)(hH:H^Q%P=1%P)(h1:G%P≠1%P)(hA:1<=AT)(hB:0<BY)(hj:∀i,i<T->AT+i*BY<=64)(hm:∀i,i<T->(((AT+i*BY:Nat):Int),0)∈LL) :
  (Bz P Q G H T (Cw P Q G H vs ms) (LL.map fun x=>Cg Q vs ms x.1 x.2) 64).length=T:=by
 obtain⟨a,rfl⟩:∃a,AT=a+1:=⟨AT-1,by omega⟩
 refine aS hB (fun i hi=>?_) fun i hi=>hj i hi
 exact cG hQ hP hG hH h1 ⟨by omega,hj i hi⟩ (hm i hi)
theorem iK {P Q G H T:Nat}{vs ms:List Nat}{LL:List (Int×Nat)}(hQ:Bf Q)(hq:64<Q)(hP:2<=P)(hG:G^Q%P=1%P)(hH:H^Q%P=1%P)(h1:G%P≠1%P)(hv:vs.length=T)(hm:ms.length=T)(hl:(Bz P Q G H T (Cw P Q G H vs ms) (LL.map fun x=>Cg Q vs ms x.1 x.2) 64).length=T)(X:Nat) :
  Po Q X (fun p=>p.2.1) (Bz P Q G H T (Cw P Q G H vs ms) (LL.map fun x=>Cg Q vs ms x.1 x.2) 64)=Bp Q X vs /\
  Po Q X (fun p=>p.2.2) (Bz P Q G H T (Cw P Q G H vs ms) (LL.map fun x=>Cg Q vs ms x.1 x.2) 64)=Bp Q X ms:=by
 have hp:∀p∈Bz P Q G H T (Cw P Q G H vs ms) (LL.map fun x=>Cg Q vs ms x.1 x.2) 64,p.2.1=Bp Q p.1.toNat vs/\p.2.2=Bp Q p.1.toNat ms:=fun p hp=>by
  obtain⟨i,hi,he⟩:=Sm hp;rw[Yy hQ hP hG hH h1 ⟨by omega,by omega⟩ he];exact⟨rfl,rfl⟩
 exact⟨Ua hQ hq (fun p h=>(hp p h).1) (by rw[hl,hv];exact Av _) X,Ua hQ hq (fun p h=>(hp p h).2) (by rw[hl,hm];exact Av _) X⟩
theorem kV (i:Nat)(hi:i<3):gG i%gP i≠1%gP i:=by
 have h:=Ih i hi;rw[Nat.mod_eq_of_lt (by omega),Nat.mod_eq_of_lt (by omega)];omega
end Go.Proofs.YtokhckjemidbpaaGreatDoor
