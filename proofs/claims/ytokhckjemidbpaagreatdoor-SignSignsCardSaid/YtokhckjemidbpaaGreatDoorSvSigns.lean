/- SignSigns, walked: any key's signature of any message is the document's, or refused as it says. -/
import Derived.Test.YtokhckjemidbpaaGreatDoorSdB
set_option maxRecDepth 1000000
set_option maxHeartbeats 16000000
set_option linter.all false
namespace Go.Proofs.YtokhckjemidbpaaGreatDoor
open Go Go.RowKit Go.Proofs.YtokhckjemidbpaaGreatDoor.Flow
theorem Wz (w:World)(hr:Tabs w)(A0:Int)(X:Nat)(hX:pB X)(pm:Option Addr)(nm cm:Nat)(msg:List Nat)(hm:Ax w ⟨pm,nm,cm,msg⟩)(hz:pm=none->cm=0) :
  Calls Tryz.prog 3 #[.int .i64 A0,.int .u64 (X:Nat),.slice pm nm cm] w fun e w'=>e=.returned (.bool true)/\Below w.heap.size w w':=by
 have HLI:=Ab Hr;have HT0:=Ab hr;have HM0:=Ab hm;have HZM:=Ab hz;have HXl:Aa (X<18446744073709551616):=⟨hX⟩
 have HXb:Aa (Ao X<=100000):=⟨Dn ((Bg X 64).2 hX) (by decide)⟩
 have hcap:nm<=cm:=hm.row.cap;have hmax:cm<=9223372036854775807:=hm.row.max;have HML:Aa (nm=msg.length):=⟨hm.row.len⟩
 obtain⟨i,hi⟩:∃i,((IntKind.u64.wrap A0)%3).toNat=i:=⟨_,rfl⟩
 have HI3:Aa (i<3):=⟨by rw[<-hi];exact Tv A0⟩
 have HI:=Ab hi;clear hr hX hi hm hz;go_enter Tryz.func3,Tryz.ntmps3
 go_wp2_with fail
 refine(HLI.out w HT0.out).mono ?_;rintro en w1 ⟨rfl,b1⟩;have B1:=Ab b1;clear b1
 by_cases hn3:300<nm
 .have hn3':(300:Int)<nm:=by omega
  go_wp2_with fail
  refine(HLI.out w1 (HT0.out.below B1.out HT0.out.size)).mono ?_;rintro en w2 ⟨rfl,b2⟩;have B2:=Ab (Ae B1.out b2);clear b2;go_wp2;go_ret;exact⟨rfl,B2.out⟩
 have hn3':¬(300:Int)<nm:=by omega
 have HNM:Aa (nm<=1000):=⟨by omega⟩
 go_wp2_with fail
 refine(Fw w1 A0 (HT0.out.below B1.out HT0.out.size)).mono ?_;rintro en w2 ⟨b,rfl,hg2,b2⟩;rw[HI.out]at hg2
 obtain⟨P,hP⟩:∃P,gP i=P:=⟨_,rfl⟩
 obtain⟨Q,hQ⟩:∃P,gQ i=P:=⟨_,rfl⟩
 obtain⟨G,hG⟩:∃P,gG i=P:=⟨_,rfl⟩
 obtain⟨H,hH⟩:∃P,gH i=P:=⟨_,rfl⟩
 have HGP:Aa (G<P):=⟨by rw[<-hP,<-hG];exact(Ko i HI3.out).2.2.1⟩
 have HQ2:Aa (2<=Q):=⟨by rw[<-hQ];exact Ty i HI3.out⟩
 have HPf:Aa (Ak P<=16):=⟨by rw[<-hP];exact Ol i HI3.out⟩
 have HQf:Aa (Ak Q<=16):=⟨by rw[<-hQ];exact Ql i HI3.out⟩
 have HQl:Aa (Ao Q<=100000):=⟨Gl HQf.out⟩
 rw[hP,hQ,hG,hH]at hg2
 have HG:=Ab hg2;have HB:=Ab (Ae B1.out b2);clear hg2 b2 hP hQ hG hH B1
 go_wp2_with fail
 refine(Jp HG.out).mono ?_;rintro en w3 ⟨_,rfl,hv,hb⟩;obtain⟨p0,n0,c0,p1,n1,c1,p2,n2,c2,p3,n3,c3,rfl,h0,h1,h2,h3⟩:=hv.ex;have hb2:Below w3.heap.size w3 (w3.alloc (.cells #[.slice p0 n0 c0,.slice p1 n1 c1,.slice p2 n2 c2,.slice p3 n3 c3] 30)):=Bx;have hx8:=Cu.made 30 w3 (.slice p0 n0 c0) (.slice p1 n1 c1) (.slice p2 n2 c2) (.slice p3 n3 c3);obtain⟨b8,hb8⟩:∃b,w3.heap.size=b:=⟨_,rfl⟩
 obtain⟨w4,hw4⟩:∃W,w3.alloc (.cells #[.slice p0 n0 c0,.slice p1 n1 c1,.slice p2 n2 c2,.slice p3 n3 c3] 30)=W:=⟨_,rfl⟩
 rw[hw4]at hb2 hx8
 rw[hb8]at hx8
 have HX8:=Ab hx8;have HV:Aa (Cb P Q G H (.agg #[.slice p0 n0 c0,.slice p1 n1 c1,.slice p2 n2 c2,.slice p3 n3 c3]) w4):=⟨⟨p0,n0,c0,p1,n1,c1,p2,n2,c2,p3,n3,c3,rfl,h0.below hb2,h1.below hb2,h2.below hb2,h3.below hb2⟩⟩
 have hbb:=Ae hb hb2;replace HG:=Ab (HG.out.below hbb);replace HB:=Ab (Ae HB.out hbb);have HT:=Ab (HT0.out.below HB.out HT0.out.size);have HM:=Ab (HM0.out.below HB.out);have hO0:Own (w4.alloc (.cells #[] 5)) w4.heap.size (.slice (some ⟨w4.heap.size,0,none⟩) 0 0) []:=Own.lit w4 [] (by decide);have hb6:Below w4.heap.size w4 (w4.alloc (.cells #[] 5)):=Bx;have HO0:=Ab hO0;have HB6:=Ab hb6;have HS6:Aa (w4.heap.size<=(w4.alloc (.cells #[] 5)).heap.size):=⟨hb6.size⟩
 have HRB6:=Ab ((HM.out.below hb6).row);have HMX:Aa (([]:List Nat).length+nm<=140737488355328):=⟨by simp;omega⟩
 clear hv h0 h1 h2 h3 hb hb2 hx8 hbb hO0 hb6
 go_wp2_with (at_builtin;refine Cc rfl _ _ rfl rfl HO0.out rfl HRB6.out HZM.out HMX.out HS6.out ?_;intro v1' w7 ho1 hg1;refine De.out ?_)
 refine⟨?_⟩;clear hw4 hb8;have hb7:Below w4.heap.size w4 w7:=HB6.out.trans (grown_below hg1 HS6.out HO0.out.ge);have ho1':Own w7 w4.heap.size v1' msg:=ho1;obtain⟨po,co,rfl,hpo,_⟩:=(Bp.mk ho1').part HM0.out.bytes;rw[<-HML.out]at hpo
 simp only[<-HML.out];have HO:Aa (Ax w7 ⟨po,nm,co,msg⟩):=⟨hpo⟩
 clear ho1 ho1' hg1 hpo HO0 HB6 HRB6 HMX HS6;replace HG:=Ab (HG.out.below hb7);replace HT:=Ab (HT.out.below hb7 HT.out.size);replace HM:=Ab (HM.out.below hb7);replace HB:=Ab (Ae HB.out hb7);replace HX8:=Ab (HX8.out.below hb7 HX8.out.lt);replace HV:=Ab (HV.out.below hb7);clear hb7
 go_wp2_with fail
 refine(Co (n:=X) w7 HXl.out).mono ?_;rintro en w8 ⟨x8,rfl,h8,hb⟩;have HN:=Ab h8;clear h8;replace HG:=Ab (HG.out.below hb);replace HT:=Ab (HT.out.below hb HT.out.size);replace HM:=Ab (HM.out.below hb);replace HB:=Ab (Ae HB.out hb);replace HX8:=Ab (HX8.out.below hb HX8.out.lt);replace HV:=Ab (HV.out.below hb);replace HO:=Ab (HO.out.below hb);clear hb;obtain⟨RT,hRT⟩:∃A,decide (0<X/\X<Q)=A:=⟨_,rfl⟩
 obtain⟨NT,hNT⟩:∃A,(!RT)=A:=⟨_,rfl⟩
 have HRT:=Ab hRT
 by_cases hk:0<X/\X<Q
 .have HKy:Aa _:=⟨hk⟩
  have HXQ:Aa (X<Q):=⟨hk.2⟩
  have hnf:NT=false:=by rw[<-hNT,<-hRT,decide_eq_true hk];rfl
  have HNF:=Ab hnf;clear hk hnf hRT
  go_wp2_with fail
  refine(Nd HG.out HT.out HN.out (by decide) HPf.out HQf.out HO.out HKy.out).mono ?_;rintro en w9 ⟨_,rfl,ho,hb⟩;obtain⟨pb,cb,rfl,hpb,_⟩:=ho.part (Fc _ _ _ _ _);obtain⟨SB,hSB⟩:∃S,Lv P Q G X msg=S:=⟨_,rfl⟩
  obtain⟨L,hL⟩:∃L,SB.length=L:=⟨_,rfl⟩
  have HL2Q:Aa (2*Ak Q=L):=⟨by rw[<-hL,<-hSB,Jo]⟩
  rw[hSB,hL]at hpb
  simp only[hSB,hL];have HPB:=Ab hpb;clear ho hpb HN hL;replace HG:=Ab (HG.out.below hb);replace HT:=Ab (HT.out.below hb HT.out.size);replace HM:=Ab (HM.out.below hb);replace HB:=Ab (Ae HB.out hb);replace HX8:=Ab (HX8.out.below hb HX8.out.lt);replace HV:=Ab (HV.out.below hb);replace HO:=Ab (HO.out.below hb);clear hb
  go_wp2_with fail
  refine(Co (n:=X) w9 HXl.out).mono ?_;rintro en w10 ⟨x10,rfl,h10,hb⟩;have HN:=Ab h10;clear h10;replace HG:=Ab (HG.out.below hb);replace HT:=Ab (HT.out.below hb HT.out.size);replace HM:=Ab (HM.out.below hb);replace HB:=Ab (Ae HB.out hb);replace HX8:=Ab (HX8.out.below hb HX8.out.lt);replace HV:=Ab (HV.out.below hb);replace HO:=Ab (HO.out.below hb);replace HPB:=Ab (HPB.out.below hb);clear hb
  go_wp2_with fail
  refine(Kl HG.out HN.out (by decide) HKy.out).mono ?_;rintro en w11 ⟨_,rfl,⟨py,ny,cy,rfl,hy,ly⟩,hb⟩;obtain⟨YY,hYY⟩:∃Y,G^X%P=Y:=⟨_,rfl⟩
  rw[hYY]at hy ly
  have hbn:Below w11.heap.size w11 (w11.alloc (.cells #[.slice py ny cy] 37)):=Bx;have hXn:=Af.made w11 (.slice py ny cy);obtain⟨w12,hw12⟩:∃W,w11.alloc (.cells #[.slice py ny cy] 37)=W:=⟨_,rfl⟩
  rw[hw12]at hbn hXn
  have hbn2:=Ae hb hbn;obtain⟨b12,hb12⟩:∃b,w11.heap.size=b:=⟨_,rfl⟩
  rw[hb12]at hXn
  have HXY:=Ab hXn;have HFY:Aa (Fit 33 YY (.agg #[.slice py ny cy]) w12):=⟨(Fit.of hy ly).below hbn⟩
  clear hy ly hb hbn hXn HN;replace HG:=Ab (HG.out.below hbn2);replace HT:=Ab (HT.out.below hbn2 HT.out.size);replace HM:=Ab (HM.out.below hbn2);replace HB:=Ab (Ae HB.out hbn2);replace HX8:=Ab (HX8.out.below hbn2 HX8.out.lt);replace HV:=Ab (HV.out.below hbn2);replace HO:=Ab (HO.out.below hbn2);replace HPB:=Ab (HPB.out.below hbn2);clear hbn2;go_wp2;clear hw12 hb12;refine Ah (by kernel_rfl) (by kernel_rfl)
   [some (.agg #[.slice p0 n0 c0,.slice p1 n1 c1,.slice p2 n2 c2,.slice p3 n3 c3]),some (.int .u64 (X:Nat)),none,none,some (.bool NT)]
   [false,false,true,true,false] rfl
   (fun w1 w2=>Below w1.heap.size w1 w2)
   (fun _ w'=>Below w12.heap.size w12 w')
   (fun i v w'=>match i with
    | 2=>Al X v w'
    | 3=>v=.bool RT
    | _=>True)
   ?_ (Bb _ _).drew ?_ ?_
  .intro i v w1 w2 hf hb;split at hf
   .exact hf.below hb
   .exact hf
   .trivial
  .simp only[Ba,Nat.reduceAdd];refine⟨?_,?_,?_,?_,?_,trivial⟩
   all_goals intro D sp w' hD hW hdp hbx'
   case refine_1=>
    have hB4:=HX8.out.below hbx' HX8.out.lt;have g0:=hB4.cells.1;have g1:=hB4.cells.2.1;have g2:=hB4.cells.2.2.1;have g3:=hB4.cells.2.2.2
    with_reducible refine Ad ?_ ?_
    all_goals simp[Region.wanted,yielded,execOp,Act.eval,Act.put,go_sem,g0,g1,g2,g3]
   case refine_3=>
    (with_reducible refine Ac (w1:=w') (f := 20) (args:=#[.int .u64 (X:Nat)]) ?_ ?_ ?_)
    .simp[Region.wanted,yielded,Act.put,go_sem]
    .simp[Act.eval,Act.put,go_sem]
    .refine(Fb X w' HXl.out).mono ?_;rintro en w9 ⟨q9,m9,d9,rfl,hu,hb,_⟩;exact⟨_,rfl,hb,Al.of hu,Ae hbx' hb⟩
   case refine_4=>
    have k2:Al X (sp 2) w':=(hdp 2 (mq (by kernel_rfl))).2
    (with_reducible refine Ac (w1:=w') (f := 19) (args:=#[.agg #[.slice p0 n0 c0,.slice p1 n1 c1,.slice p2 n2 c2,.slice p3 n3 c3],sp 2]) ?_ ?_ ?_)
    .simp[Region.wanted,yielded,Act.put,go_sem]
    .simp[Act.eval,Act.put,go_sem]
    .refine(Po (HV.out.below hbx') k2 HXb.out HQl.out).mono ?_;rintro en w9 ⟨rfl,hb⟩;rw[HRT.out];exact⟨_,rfl,hb,rfl,Ae hbx' hb⟩
   case refine_5=>
    have k3:(sp 3)=.bool RT:=(hdp 3 (mq (by kernel_rfl))).2
    with_reducible refine Ad ?_ ?_
    all_goals simp[Region.wanted,yielded,execOp,Act.eval,Act.put,go_sem,k3,hNT]
   all_goals ((with_reducible refine Ad ?_ ?_);all_goals first|(simp only[Region.wanted];done)|simp[Region.wanted,yielded,execOp,Act.eval,Act.put,go_sem])
  .intro sp w13 hsp hb;clear hsp;replace HG:=Ab (HG.out.below hb);replace HT:=Ab (HT.out.below hb HT.out.size);replace HM:=Ab (HM.out.below hb);replace HB:=Ab (Ae HB.out hb);replace HX8:=Ab (HX8.out.below hb HX8.out.lt);replace HV:=Ab (HV.out.below hb);replace HO:=Ab (HO.out.below hb);replace HPB:=Ab (HPB.out.below hb);replace HXY:=Ab (HXY.out.below hb HXY.out.lt);replace HFY:=Ab (HFY.out.below hb);clear hb;simp only[An,Nat.reduceAdd];generalize sp 2=y2,sp 3=y3 at *
   go_simp
   obtain rfl:=HNF.out;clear HNF hNT;obtain⟨SS,hSS⟩:∃S,strOf SB=S:=⟨_,rfl⟩
   obtain⟨SM,hSM⟩:∃S,strOf msg=S:=⟨_,rfl⟩
   have HSS:=Ab hSS;have HCB:Aa (∀w',Below w13.heap.size w13 w'->(convert 23 9 (.slice pb L cb)).run Tryz.prog w'=.ok (.string SS) w'):=⟨fun w' hb=>by rw[<-hSS];exact Fi (HPB.out.below hb).row⟩
   have HCO:Aa (∀w',Below w13.heap.size w13 w'->(convert 23 9 (.slice po nm co)).run Tryz.prog w'=.ok (.string SM) w'/\(convert 23 9 (.slice pm nm cm)).run Tryz.prog w'=.ok (.string SM) w'):=⟨fun w' hb=>by rw[<-hSM];exact⟨Fi (HO.out.below hb).row,Fi (HM.out.below hb).row⟩⟩
   clear hSS hSM;go_wp2;refine Ah (by kernel_rfl) (by kernel_rfl)
    [some (.int .i64 0),some (.bool true),some (.bool true),some (.int .i64 0),some (.bool true),some (.bool true),some (.bool true),some (.slice pb L cb),some (.string SS),some (.agg #[.slice p0 n0 c0,.slice p1 n1 c1,.slice p2 n2 c2,.slice p3 n3 c3]),some (.int .u64 (X:Nat)),none,some (.slice pm nm cm),none,some (.string SS),some (.bool true),some (.bool true),some (.bool true),some (.slice pb L cb),some (.int .i64 (L:Nat)),some (.pointer (some ⟨b,0,none⟩)),none,some (.bool true),some (.bool true),some (.bool true),some (.slice po nm co),some (.string SM),some (.slice pm nm cm),some (.string SM),some (.bool true),some (.bool true),some (.bool true),some (.agg #[.slice py ny cy]),some (.pointer (some ⟨b,0,none⟩)),some (.pointer (some ⟨b,0,none⟩)),none,some (.int .u64 (X:Nat)),none,none,none,some (.bool true),some (.bool true),some (.bool true)]
    [false,false,false,false,false,false,false,false,false,false,false,true,false,true,false,false,false,false,false,false,false,true,false,false,false,false,false,false,false,false,false,false,false,false,false,true,false,true,true,true,false,false,false] rfl
    (fun w1 w2=>Below w1.heap.size w1 w2)
    (fun _ w'=>Below w13.heap.size w13 w')
    (fun i v w'=>match i with
     | 11=>Al X v w'
     | 13=>Bp 0 SB v w'
     | 21=>v=.int .i64 (L:Nat)
     | 35=>Fit 33 G v w'
     | 37=>Fit 2 X v w'
     | 38=>Fit 33 (YY) v w'
     | 39=>v=.int .i64 0
     | _=>True)
    ?_ (Bb _ _).drew ?_ ?_
   .intro i v w1 w2 hf hb;split at hf
    .exact hf.below hb
    .exact hf.below hb
    .exact hf
    .exact hf.below hb
    .exact hf.below hb
    .exact hf.below hb
    .exact hf
    .trivial
   .simp only[Ba,Nat.reduceAdd];refine⟨?_,?_,?_,?_,?_,?_,?_,?_,?_,?_,?_,?_,?_,?_,?_,?_,?_,?_,?_,?_,?_,?_,?_,?_,?_,?_,?_,?_,?_,?_,?_,?_,?_,?_,?_,?_,?_,?_,?_,?_,?_,?_,?_,trivial⟩
    all_goals intro D sp w' hD hW hdp hbx'
    case refine_9=>
     have cv:=HCB.out w' hbx'
     with_reducible refine Ad ?_ ?_
     all_goals simp[Region.wanted,yielded,execOp,Act.eval,Act.put,go_sem,cv]
    case refine_10=>
     have hB4:=HX8.out.below hbx' HX8.out.lt;have g0:=hB4.cells.1;have g1:=hB4.cells.2.1;have g2:=hB4.cells.2.2.1;have g3:=hB4.cells.2.2.2
     with_reducible refine Ad ?_ ?_
     all_goals simp[Region.wanted,yielded,execOp,Act.eval,Act.put,go_sem,g0,g1,g2,g3]
    case refine_12=>
     (with_reducible refine Ac (w1:=w') (f := 20) (args:=#[.int .u64 (X:Nat)]) ?_ ?_ ?_)
     .simp[Region.wanted,yielded,Act.put,go_sem]
     .simp[Act.eval,Act.put,go_sem]
     .refine(Fb X w' HXl.out).mono ?_;rintro en w9 ⟨q9,m9,d9,rfl,hu,hb,_⟩;exact⟨_,rfl,hb,Al.of hu,Ae hbx' hb⟩
    case refine_14=>
     have k11:Al X (sp 11) w':=(hdp 11 (mq (by kernel_rfl))).2
     (with_reducible refine Ac (w1:=w') (f := 22) (args:=#[.agg #[.slice p0 n0 c0,.slice p1 n1 c1,.slice p2 n2 c2,.slice p3 n3 c3],sp 11,.slice pm nm cm]) ?_ ?_ ?_)
     .simp[Region.wanted,yielded,Act.put,go_sem]
     .simp[Act.eval,Act.put,go_sem]
     .refine(aI (HV.out.below hbx') k11 HXQ.out HGP.out HQ2.out HPf.out HQf.out (HM.out.below hbx') HZM.out HNM.out).mono ?_;rintro en w9 ⟨u,rfl,hu,hb⟩;rw[hSB]at hu
      exact⟨_,rfl,hb,hu,Ae hbx' hb⟩
    case refine_15=>
     have hf:Bp 0 SB (sp 13) w':=(hdp 13 (mq (by kernel_rfl))).2
     (with_reducible refine hf.elim (fun p9 c9 hv hr _ _=>?_))
     have k:=Fi hr;rw[HSS.out]at k
     with_reducible refine Ad ?_ ?_
     all_goals simp[Region.wanted,yielded,execOp,Act.eval,Act.put,go_sem,hv,k]
    case refine_20=>
     (with_reducible refine Ai (w1:=w') (v:=.int .i64 (L:Nat)) ?_ ?_ ?_)
     .simp[Region.wanted,yielded,Act.put,go_sem]
     .simp[Act.eval,Act.put,go_sem]
     .exact⟨rfl,rfl⟩
    case refine_22=>
     (with_reducible refine Ac (w1:=w') (f := 23) (args:=#[.pointer (some ⟨b,0,none⟩)]) ?_ ?_ ?_)
     .simp[Region.wanted,yielded,Act.put,go_sem]
     .simp[Act.eval,Act.put,go_sem]
     .refine(Qe (Us.of (HG.out.below hbx')) HQf.out).mono ?_;rintro en w9 ⟨rfl,hb⟩;rw[HL2Q.out];exact⟨_,rfl,hb,rfl,Ae hbx' hb⟩
    case refine_23=>
     have k21:(sp 21)=.int .i64 (L:Nat):=(hdp 21 (mq (by kernel_rfl))).2
     with_reducible refine Ad ?_ ?_
     all_goals simp[Region.wanted,yielded,execOp,Act.eval,Act.put,go_sem,k21]
    case refine_27=>
     have cv:=(HCO.out w' hbx').1
     with_reducible refine Ad ?_ ?_
     all_goals simp[Region.wanted,yielded,execOp,Act.eval,Act.put,go_sem,cv]
    case refine_29=>
     have cv:=(HCO.out w' hbx').2
     with_reducible refine Ad ?_ ?_
     all_goals simp[Region.wanted,yielded,execOp,Act.eval,Act.put,go_sem,cv]
    case refine_33=>
     have c0:=(HXY.out.below hbx' HXY.out.lt).cell
     with_reducible refine Ad ?_ ?_
     all_goals simp[Region.wanted,yielded,execOp,Act.eval,Act.put,go_sem,c0]
    case refine_36=>
     (with_reducible refine Ac (w1:=w') (f := 26) (args:=#[.pointer (some ⟨b,0,none⟩)]) ?_ ?_ ?_)
     .simp[Region.wanted,yielded,Act.put,go_sem]
     .simp[Act.eval,Act.put,go_sem]
     .refine(Mm (HG.out.below hbx')).mono ?_;rintro en w9 ⟨u,rfl,hu,hb⟩;exact⟨u,rfl,hb,hu,Ae hbx' hb⟩
    case refine_38=>
     (with_reducible refine Ac (w1:=w') (f := 17) (args:=#[.int .u64 (X:Nat)]) ?_ ?_ ?_)
     .simp[Region.wanted,yielded,Act.put,go_sem]
     .simp[Act.eval,Act.put,go_sem]
     .refine(Co (n:=X) w' HXl.out).mono ?_;rintro en w9 ⟨u,rfl,hu,hb⟩;exact⟨u,rfl,hb,hu,Ae hbx' hb⟩
    case refine_39=>
     have k35:Fit 33 G (sp 35) w':=(hdp 35 (mq (by kernel_rfl))).2;have k37:Fit 2 X (sp 37) w':=(hdp 37 (mq (by kernel_rfl))).2
     (with_reducible refine Ac (w1:=w') (f := 25) (args:=#[.pointer (some ⟨b,0,none⟩),sp 35,sp 37]) ?_ ?_ ?_)
     .simp[Region.wanted,yielded,Act.put,go_sem]
     .simp[Act.eval,Act.put,go_sem]
     .refine(Jb (HG.out.below hbx') k35 k37 (by decide) (by decide)).mono ?_;rintro en w9 ⟨u,rfl,hu,hb⟩;rw[hYY]at hu
      exact⟨u,rfl,hb,hu,Ae hbx' hb⟩
    case refine_40=>
     have k38:Fit 33 (YY) (sp 38) w':=(hdp 38 (mq (by kernel_rfl))).2
     (with_reducible refine Ac (w1:=w') (f := 24) (args:=#[.agg #[.slice py ny cy],sp 38]) ?_ ?_ ?_)
     .simp[Region.wanted,yielded,Act.put,go_sem]
     .simp[Act.eval,Act.put,go_sem]
     .refine(Bu (HFY.out.below hbx') k38 (by decide) (by decide) (Ce.2 rfl)).mono ?_;rintro en w9 ⟨u,rfl,rfl,hb⟩;exact⟨_,rfl,hb,rfl,Ae hbx' hb⟩
    case refine_41=>
     have k39:(sp 39)=.int .i64 0:=(hdp 39 (mq (by kernel_rfl))).2
     with_reducible refine Ad ?_ ?_
     all_goals simp[Region.wanted,yielded,execOp,Act.eval,Act.put,go_sem,k39]
    all_goals ((with_reducible refine Ad ?_ ?_);all_goals first|(simp only[Region.wanted];done)|simp[Region.wanted,yielded,execOp,Act.eval,Act.put,go_sem])
   .intro sp w14 hsp hb;have HBf:=Ab (Ae HB.out hb);clear hsp hb hSB hYY;simp only[An,Nat.reduceAdd];generalize sp 11=y11,sp 13=y13,sp 21=y21,sp 35=y35,sp 37=y37,sp 38=y38,sp 39=y39 at *
    go_simp
    go_wp2;go_ret;exact⟨rfl,HBf.out⟩
 .have HKy:Aa _:=⟨hk⟩
  have hnf:NT=true:=by rw[<-hNT,<-hRT,decide_eq_false hk];rfl
  have HNF:=Ab hnf;clear hk hnf hRT
  go_wp2_with fail
  refine(jQ HG.out HT.out HN.out (by decide) HPf.out HQf.out HO.out HKy.out).mono ?_;rintro en w9 ⟨rfl,hb⟩;clear HN;replace HG:=Ab (HG.out.below hb);replace HT:=Ab (HT.out.below hb HT.out.size);replace HM:=Ab (HM.out.below hb);replace HB:=Ab (Ae HB.out hb);replace HX8:=Ab (HX8.out.below hb HX8.out.lt);replace HV:=Ab (HV.out.below hb);replace HO:=Ab (HO.out.below hb);clear hb
  go_wp2_with fail
  refine(Co (n:=X) w9 HXl.out).mono ?_;rintro en w10 ⟨x10,rfl,h10,hb⟩;have HN:=Ab h10;clear h10;replace HG:=Ab (HG.out.below hb);replace HT:=Ab (HT.out.below hb HT.out.size);replace HM:=Ab (HM.out.below hb);replace HB:=Ab (Ae HB.out hb);replace HX8:=Ab (HX8.out.below hb HX8.out.lt);replace HV:=Ab (HV.out.below hb);replace HO:=Ab (HO.out.below hb);clear hb
  go_wp2_with fail
  refine(Ti HG.out HN.out (by decide) HKy.out).mono ?_;rintro en w11 ⟨rfl,hb⟩;have hbn:Below w11.heap.size w11 (w11.alloc (.cells #[.slice none 0 0] 37)):=Bx;have hXn:=Af.made w11 (.slice none 0 0);obtain⟨w12,hw12⟩:∃W,w11.alloc (.cells #[.slice none 0 0] 37)=W:=⟨_,rfl⟩
  rw[hw12]at hbn hXn
  obtain⟨b12,hb12⟩:∃b,w11.heap.size=b:=⟨_,rfl⟩
  rw[hb12]at hXn
  have cx:=hXn.cell;have fx:=hXn.free;have hxs:=hXn.set (.slice none 0 0);have hbs:Below w11.heap.size w11 (w12.setCell ⟨b12,0,none⟩ (.slice none 0 0)):=hbn.setCell (by rw[<-hb12];exact As _) _;obtain⟨ws,hws⟩:∃W,w12.setCell ⟨b12,0,none⟩ (.slice none 0 0)=W:=⟨_,rfl⟩
  rw[hws]at hxs hbs
  have hbn2:=Ae hb hbs;have HXY:=Ab hxs;clear hb hbn hXn HN hxs hbs;replace HG:=Ab (HG.out.below hbn2);replace HT:=Ab (HT.out.below hbn2 HT.out.size);replace HM:=Ab (HM.out.below hbn2);replace HB:=Ab (Ae HB.out hbn2);replace HX8:=Ab (HX8.out.below hbn2 HX8.out.lt);replace HV:=Ab (HV.out.below hbn2);replace HO:=Ab (HO.out.below hbn2);clear hbn2;go_wp2;clear hw12 hb12 cx fx hws;refine Ah (by kernel_rfl) (by kernel_rfl)
   [some (.agg #[.slice p0 n0 c0,.slice p1 n1 c1,.slice p2 n2 c2,.slice p3 n3 c3]),some (.int .u64 (X:Nat)),none,none,some (.bool NT)]
   [false,false,true,true,false] rfl
   (fun w1 w2=>Below w1.heap.size w1 w2)
   (fun _ w'=>Below ws.heap.size ws w')
   (fun i v w'=>match i with
    | 2=>Al X v w'
    | 3=>v=.bool RT
    | _=>True)
   ?_ (Bb _ _).drew ?_ ?_
  .intro i v w1 w2 hf hb;split at hf
   .exact hf.below hb
   .exact hf
   .trivial
  .simp only[Ba,Nat.reduceAdd];refine⟨?_,?_,?_,?_,?_,trivial⟩
   all_goals intro D sp w' hD hW hdp hbx'
   case refine_1=>
    have hB4:=HX8.out.below hbx' HX8.out.lt;have g0:=hB4.cells.1;have g1:=hB4.cells.2.1;have g2:=hB4.cells.2.2.1;have g3:=hB4.cells.2.2.2
    with_reducible refine Ad ?_ ?_
    all_goals simp[Region.wanted,yielded,execOp,Act.eval,Act.put,go_sem,g0,g1,g2,g3]
   case refine_3=>
    (with_reducible refine Ac (w1:=w') (f := 20) (args:=#[.int .u64 (X:Nat)]) ?_ ?_ ?_)
    .simp[Region.wanted,yielded,Act.put,go_sem]
    .simp[Act.eval,Act.put,go_sem]
    .refine(Fb X w' HXl.out).mono ?_;rintro en w9 ⟨q9,m9,d9,rfl,hu,hb,_⟩;exact⟨_,rfl,hb,Al.of hu,Ae hbx' hb⟩
   case refine_4=>
    have k2:Al X (sp 2) w':=(hdp 2 (mq (by kernel_rfl))).2
    (with_reducible refine Ac (w1:=w') (f := 19) (args:=#[.agg #[.slice p0 n0 c0,.slice p1 n1 c1,.slice p2 n2 c2,.slice p3 n3 c3],sp 2]) ?_ ?_ ?_)
    .simp[Region.wanted,yielded,Act.put,go_sem]
    .simp[Act.eval,Act.put,go_sem]
    .refine(Po (HV.out.below hbx') k2 HXb.out HQl.out).mono ?_;rintro en w9 ⟨rfl,hb⟩;rw[HRT.out];exact⟨_,rfl,hb,rfl,Ae hbx' hb⟩
   case refine_5=>
    have k3:(sp 3)=.bool RT:=(hdp 3 (mq (by kernel_rfl))).2
    with_reducible refine Ad ?_ ?_
    all_goals simp[Region.wanted,yielded,execOp,Act.eval,Act.put,go_sem,k3,hNT]
   all_goals ((with_reducible refine Ad ?_ ?_);all_goals first|(simp only[Region.wanted];done)|simp[Region.wanted,yielded,execOp,Act.eval,Act.put,go_sem])
  .intro sp w13 hsp hb;clear hsp;replace HB:=Ab (Ae HB.out hb);replace HXY:=Ab (HXY.out.below hb HXY.out.lt);clear hb;simp only[An,Nat.reduceAdd];generalize sp 2=y2,sp 3=y3 at *
   go_simp
   obtain rfl:=HNF.out;clear HNF hNT;have cx:=HXY.out.cell;have HZF:=Ab (Dw (eO w13) (decide_eq_true rfl))
   go_wp2_with fail
   refine HZF.out.mono ?_;rintro en w14 ⟨_,rfl,rfl,hb⟩;have HBf:=Ab (Ae HB.out hb);clear hb cx;go_wp2;go_ret;exact⟨rfl,HBf.out⟩
end Go.Proofs.YtokhckjemidbpaaGreatDoor
