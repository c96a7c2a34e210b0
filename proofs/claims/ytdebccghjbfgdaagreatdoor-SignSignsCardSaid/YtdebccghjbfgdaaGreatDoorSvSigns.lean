/- SignSigns, walked: any key's signature of any message is the document's, or refused as it says. -/
import Derived.Test.YtdebccghjbfgdaaGreatDoorSgG
import Derived.Test.YtdebccghjbfgdaaGreatDoorSdB
set_option maxRecDepth 1000000
set_option maxHeartbeats 16000000
set_option linter.unusedSimpArgs false
set_option linter.unusedVariables false
namespace Go.Proofs.YtdebccghjbfgdaaGreatDoor
open Go Go.RowKit Go.Proofs.YtdebccghjbfgdaaGreatDoor.Flow
theorem ssigns_calls (w:World) (hr:Tabs w) (A0:Int) (X:Nat) (hX:U64 X) (pm:Option Addr) (nm cm:Nat) (msg:List Nat) (hm:PartOk w ⟨pm,nm,cm,msg⟩) (hz:pm=none -> cm=0) :
  Calls Tryz.prog 9 #[.int .i64 A0,.int .u64 (X:Nat),.slice pm nm cm] w fun e w'=>e=.returned (.bool true) /\ Below w.heap.size w w':=by
 have HLI:=hol lives11_calls
 have HT0:=hol hr
 have HM0:=hol hm
 have HZM:=hol hz
 have HXl:Hold (X < 18446744073709551616):=⟨hX⟩
 have HXb:Hold (blen X <= 100000):=⟨Nat.le_trans ((blen_le X 64).2 hX) (by decide)⟩
 have hcap:nm <= cm:=hm.row.cap
 have hmax:cm <= 9223372036854775807:=hm.row.max
 have HML:Hold (nm=msg.length):=⟨hm.row.len⟩
 obtain ⟨i,hi⟩:∃ i,((IntKind.u64.wrap A0) % 3).toNat=i:=⟨_,rfl⟩
 have HI3:Hold (i < 3):=⟨by rw [<- hi]; exact idx_lt A0⟩
 have HI:=hol hi
 clear hr hX hi hm hz
 go_enter Tryz.func9,Tryz.ntmps9
 go_wp2_with fail
 refine (HLI.out w HT0.out).mono ?_
 rintro en w1 ⟨rfl,b1⟩
 have B1:=hol b1
 clear b1
 by_cases hn3:300 < nm
 ·have hn3':(300:Int) < nm:=by omega
  go_wp2_with fail
  refine (HLI.out w1 (HT0.out.below B1.out HT0.out.size)).mono ?_
  rintro en w2 ⟨rfl,b2⟩
  have B2:=hol (bstep B1.out b2)
  clear b2
  go_wp2
  go_ret
  exact ⟨rfl,B2.out⟩
 have hn3':¬ (300:Int) < nm:=by omega
 have HNM:Hold (nm <= 1000):=⟨by omega⟩
 go_wp2_with fail
 refine (group10_calls w1 A0 (HT0.out.below B1.out HT0.out.size)).mono ?_
 rintro en w2 ⟨b,rfl,hg2,b2⟩
 rw [HI.out] at hg2
 obtain ⟨P,hP⟩:∃ P,gP i=P:=⟨_,rfl⟩
 obtain ⟨Q,hQ⟩:∃ P,gQ i=P:=⟨_,rfl⟩
 obtain ⟨G,hG⟩:∃ P,gG i=P:=⟨_,rfl⟩
 obtain ⟨H,hH⟩:∃ P,gH i=P:=⟨_,rfl⟩
 have HGP:Hold (G < P):=⟨by rw [<- hP,<- hG]; exact (g_bounds i HI3.out).2.2.1⟩
 have HQ2:Hold (2 <= Q):=⟨by rw [<- hQ]; exact gQ_pos i HI3.out⟩
 have HPf:Hold (bsize P <= 16):=⟨by rw [<- hP]; exact gP_few i HI3.out⟩
 have HQf:Hold (bsize Q <= 16):=⟨by rw [<- hQ]; exact gQ_few i HI3.out⟩
 have HQl:Hold (blen Q <= 100000):=⟨gblen_few HQf.out⟩
 rw [hP,hQ,hG,hH] at hg2
 have HG:=hol hg2
 have HB:=hol (bstep B1.out b2)
 clear hg2 b2 hP hQ hG hH B1
 go_wp2_with fail
 refine (ref9g_calls HG.out).mono ?_
 rintro en w3 ⟨_,rfl,hv,hb⟩
 obtain ⟨p0,n0,c0,p1,n1,c1,p2,n2,c2,p3,n3,c3,rfl,h0,h1,h2,h3⟩:=hv.ex
 have hb2:Below w3.heap.size w3 (w3.alloc (.cells #[.slice p0 n0 c0,.slice p1 n1 c1,.slice p2 n2 c2,.slice p3 n3 c3] 30)):=bal
 have hx8:=Box4.made 30 w3 (.slice p0 n0 c0) (.slice p1 n1 c1) (.slice p2 n2 c2) (.slice p3 n3 c3)
 obtain ⟨b8,hb8⟩:∃ b,w3.heap.size=b:=⟨_,rfl⟩
 obtain ⟨w4,hw4⟩:∃ W,w3.alloc (.cells #[.slice p0 n0 c0,.slice p1 n1 c1,.slice p2 n2 c2,.slice p3 n3 c3] 30)=W:=⟨_,rfl⟩
 rw [hw4] at hb2 hx8
 rw [hb8] at hx8
 have HX8:=hol hx8
 have HV:Hold (RefVal P Q G H (.agg #[.slice p0 n0 c0,.slice p1 n1 c1,.slice p2 n2 c2,.slice p3 n3 c3]) w4):=⟨⟨p0,n0,c0,p1,n1,c1,p2,n2,c2,p3,n3,c3,rfl,h0.below hb2,h1.below hb2,h2.below hb2,h3.below hb2⟩⟩
 have hbb:=bstep hb hb2
 have HG_:=HG.out.below hbb
 have HB_:=bstep HB.out hbb
 clear HG HB
 have HG:=hol HG_
 have HB:=hol HB_
 clear HG_ HB_
 have HT:=hol (HT0.out.below HB.out HT0.out.size)
 have HM:=hol (HM0.out.below HB.out)
 have hO0:Own (w4.alloc (.cells #[] 5)) w4.heap.size (.slice (some ⟨w4.heap.size,0,none⟩) 0 0) []:=Own.lit w4 [] (by decide)
 have hb6:Below w4.heap.size w4 (w4.alloc (.cells #[] 5)):=bal
 have HO0:=hol hO0
 have HB6:=hol hb6
 have HS6:Hold (w4.heap.size <= (w4.alloc (.cells #[] 5)).heap.size):=⟨hb6.size⟩
 have HRB6:=hol ((HM.out.below hb6).row)
 have HMX:Hold (([]:List Nat).length + nm <= 140737488355328):=⟨by simp; omega⟩
 clear hv h0 h1 h2 h3 hb hb2 hx8 hbb hO0 hb6
 go_wp2_with (at_builtin; refine wpList_app rfl _ _ rfl rfl HO0.out rfl HRB6.out HZM.out HMX.out HS6.out ?_; intro v1' w7 ho1 hg1; refine Paused.out ?_)
 refine ⟨?_⟩
 clear hw4 hb8
 have hb7:Below w4.heap.size w4 w7:=HB6.out.trans (grown_below hg1 HS6.out HO0.out.ge)
 have ho1':Own w7 w4.heap.size v1' msg:=ho1
 obtain ⟨po,co,rfl,hpo,_⟩:=(OwnIs.mk ho1').part HM0.out.bytes
 rw [<- HML.out] at hpo
 simp only [<- HML.out]
 have HO:Hold (PartOk w7 ⟨po,nm,co,msg⟩):=⟨hpo⟩
 clear ho1 ho1' hg1 hpo HO0 HB6 HRB6 HMX HS6
 have HG_:=HG.out.below hb7
 have HT_:=HT.out.below hb7 HT.out.size
 have HM_:=HM.out.below hb7
 have HB_:=bstep HB.out hb7
 have HX8_:=HX8.out.below hb7 HX8.out.lt
 have HV_:=HV.out.below hb7
 clear HG HT HM HB HX8 HV
 have HG:=hol HG_
 have HT:=hol HT_
 have HM:=hol HM_
 have HB:=hol HB_
 have HX8:=hol HX8_
 have HV:=hol HV_
 clear HG_ HT_ HM_ HB_ HX8_ HV_
 clear hb7
 go_wp2_with fail
 refine (newnat_fit (n:=X) w7 HXl.out).mono ?_
 rintro en w8 ⟨x8,rfl,h8,hb⟩
 have HN:=hol h8
 clear h8
 have HG_:=HG.out.below hb
 have HT_:=HT.out.below hb HT.out.size
 have HM_:=HM.out.below hb
 have HB_:=bstep HB.out hb
 have HX8_:=HX8.out.below hb HX8.out.lt
 have HV_:=HV.out.below hb
 have HO_:=HO.out.below hb
 clear HG HT HM HB HX8 HV HO
 have HG:=hol HG_
 have HT:=hol HT_
 have HM:=hol HM_
 have HB:=hol HB_
 have HX8:=hol HX8_
 have HV:=hol HV_
 have HO:=hol HO_
 clear HG_ HT_ HM_ HB_ HX8_ HV_ HO_
 clear hb
 obtain ⟨RT,hRT⟩:∃ A,decide (0 < X /\ X < Q)=A:=⟨_,rfl⟩
 obtain ⟨NT,hNT⟩:∃ A,(!RT)=A:=⟨_,rfl⟩
 have HRT:=hol hRT
 by_cases hk:0 < X /\ X < Q
 ·have HKy:Hold _:=⟨hk⟩
  have HXQ:Hold (X < Q):=⟨hk.2⟩
  have hnf:NT=false:=by rw [<- hNT,<- hRT,decide_eq_true hk]; rfl
  have HNF:=hol hnf
  clear hk hnf hRT
  go_wp2_with fail
  refine (sign_ok HG.out HT.out HN.out (by decide) HPf.out HQf.out HO.out HKy.out).mono ?_
  rintro en w9 ⟨_,rfl,ho,hb⟩
  obtain ⟨pb,cb,rfl,hpb,_⟩:=ho.part (sigB_bytes _ _ _ _ _)
  obtain ⟨SB,hSB⟩:∃ S,sigB P Q G X msg=S:=⟨_,rfl⟩
  obtain ⟨L,hL⟩:∃ L,SB.length=L:=⟨_,rfl⟩
  have HL2Q:Hold (2 * bsize Q=L):=⟨by rw [<- hL,<- hSB,sigB_length]⟩
  rw [hSB,hL] at hpb
  simp only [hSB,hL]
  have HPB:=hol hpb
  clear ho hpb HN hL
  have HG_:=HG.out.below hb
  have HT_:=HT.out.below hb HT.out.size
  have HM_:=HM.out.below hb
  have HB_:=bstep HB.out hb
  have HX8_:=HX8.out.below hb HX8.out.lt
  have HV_:=HV.out.below hb
  have HO_:=HO.out.below hb
  clear HG HT HM HB HX8 HV HO
  have HG:=hol HG_
  have HT:=hol HT_
  have HM:=hol HM_
  have HB:=hol HB_
  have HX8:=hol HX8_
  have HV:=hol HV_
  have HO:=hol HO_
  clear HG_ HT_ HM_ HB_ HX8_ HV_ HO_
  clear hb
  go_wp2_with fail
  refine (newnat_fit (n:=X) w9 HXl.out).mono ?_
  rintro en w10 ⟨x10,rfl,h10,hb⟩
  have HN:=hol h10
  clear h10
  have HG_:=HG.out.below hb
  have HT_:=HT.out.below hb HT.out.size
  have HM_:=HM.out.below hb
  have HB_:=bstep HB.out hb
  have HX8_:=HX8.out.below hb HX8.out.lt
  have HV_:=HV.out.below hb
  have HO_:=HO.out.below hb
  have HPB_:=HPB.out.below hb
  clear HG HT HM HB HX8 HV HO HPB
  have HG:=hol HG_
  have HT:=hol HT_
  have HM:=hol HM_
  have HB:=hol HB_
  have HX8:=hol HX8_
  have HV:=hol HV_
  have HO:=hol HO_
  have HPB:=hol HPB_
  clear HG_ HT_ HM_ HB_ HX8_ HV_ HO_ HPB_
  clear hb
  go_wp2_with fail
  refine (public_ok HG.out HN.out (by decide) HKy.out).mono ?_
  rintro en w11 ⟨_,rfl,⟨py,ny,cy,rfl,hy,ly⟩,hb⟩
  obtain ⟨YY,hYY⟩:∃ Y,G ^ X % P=Y:=⟨_,rfl⟩
  rw [hYY] at hy ly
  have hbn:Below w11.heap.size w11 (w11.alloc (.cells #[.slice py ny cy] 36)):=bal
  have hXn:=NatBox.made w11 (.slice py ny cy)
  obtain ⟨w12,hw12⟩:∃ W,w11.alloc (.cells #[.slice py ny cy] 36)=W:=⟨_,rfl⟩
  rw [hw12] at hbn hXn
  have hbn2:=bstep hb hbn
  obtain ⟨b12,hb12⟩:∃ b,w11.heap.size=b:=⟨_,rfl⟩
  rw [hb12] at hXn
  have HXY:=hol hXn
  have HFY:Hold (Fit 33 YY (.agg #[.slice py ny cy]) w12):=⟨(Fit.of hy ly).below hbn⟩
  clear hy ly hb hbn hXn HN
  have HG_:=HG.out.below hbn2
  have HT_:=HT.out.below hbn2 HT.out.size
  have HM_:=HM.out.below hbn2
  have HB_:=bstep HB.out hbn2
  have HX8_:=HX8.out.below hbn2 HX8.out.lt
  have HV_:=HV.out.below hbn2
  have HO_:=HO.out.below hbn2
  have HPB_:=HPB.out.below hbn2
  clear HG HT HM HB HX8 HV HO HPB
  have HG:=hol HG_
  have HT:=hol HT_
  have HM:=hol HM_
  have HB:=hol HB_
  have HX8:=hol HX8_
  have HV:=hol HV_
  have HO:=hol HO_
  have HPB:=hol HPB_
  clear HG_ HT_ HM_ HB_ HX8_ HV_ HO_ HPB_
  clear hbn2
  go_wp2
  clear hw12 hb12
  refine wp_region_duties (by kernel_rfl) (by kernel_rfl)
   [some (.agg #[.slice p0 n0 c0,.slice p1 n1 c1,.slice p2 n2 c2,.slice p3 n3 c3]),some (.int .u64 (X:Nat)),none,none,some (.bool NT)]
   [false,false,true,true,false] rfl
   (fun w1 w2=>Below w1.heap.size w1 w2)
   (fun _ w'=>Below w12.heap.size w12 w')
   (fun i v w'=>match i with
    | 2=>RBits X v w'
    | 3=>v=.bool RT
    | _=>True)
   ?_ (Below.refl _ _).drew ?_ ?_
  ·intro i v w1 w2 hf hb
   split at hf
   ·exact hf.below hb
   ·exact hf
   ·trivial
  ·simp only [Duties,Nat.reduceAdd]
   refine ⟨?_,?_,?_,?_,?_,trivial⟩
   all_goals intro D sp w' hD hW hdp hbx'
   case refine_1 =>
    have hB4:=HX8.out.below hbx' HX8.out.lt
    have g0:=hB4.cells.1
    have g1:=hB4.cells.2.1
    have g2:=hB4.cells.2.2.1
    have g3:=hB4.cells.2.2.2
    with_reducible refine asked_pl ?_ ?_
    all_goals simp [Region.wanted,yielded,execOp,Act.eval,Act.put,go_sem,g0,g1,g2,g3]
   case refine_3 =>
    (with_reducible refine asked_call (w1:=w') (f := 26) (args:=#[.int .u64 (X:Nat)]) ?_ ?_ ?_)
    ·simp [Region.wanted,yielded,Act.put,go_sem]
    ·simp [Act.eval,Act.put,go_sem]
    ·refine (small_calls X w' HXl.out).mono ?_
     rintro en w9 ⟨q9,m9,d9,rfl,hu,hb,_⟩
     exact ⟨_,rfl,hb,RBits.of hu,bstep hbx' hb⟩
   case refine_4 =>
    have k2:RBits X (sp 2) w':=(hdp 2 (mq (by kernel_rfl))).2
    (with_reducible refine asked_call (w1:=w') (f := 49) (args:=#[.agg #[.slice p0 n0 c0,.slice p1 n1 c1,.slice p2 n2 c2,.slice p3 n3 c3],sp 2]) ?_ ?_ ?_)
    ·simp [Region.wanted,yielded,Act.put,go_sem]
    ·simp [Act.eval,Act.put,go_sem]
    ·refine (dright_calls (HV.out.below hbx') k2 HXb.out HQl.out).mono ?_
     rintro en w9 ⟨rfl,hb⟩
     rw [HRT.out]
     exact ⟨_,rfl,hb,rfl,bstep hbx' hb⟩
   case refine_5 =>
    have k3:(sp 3)=.bool RT:=(hdp 3 (mq (by kernel_rfl))).2
    with_reducible refine asked_pl ?_ ?_
    all_goals simp [Region.wanted,yielded,execOp,Act.eval,Act.put,go_sem,k3,hNT]
   all_goals ((with_reducible refine asked_pl ?_ ?_); all_goals first | (simp only [Region.wanted]; done) | simp [Region.wanted,yielded,execOp,Act.eval,Act.put,go_sem])
  ·intro sp w13 hsp hb
   clear hsp
   have HG_:=HG.out.below hb
   have HT_:=HT.out.below hb HT.out.size
   have HM_:=HM.out.below hb
   have HB_:=bstep HB.out hb
   have HX8_:=HX8.out.below hb HX8.out.lt
   have HV_:=HV.out.below hb
   have HO_:=HO.out.below hb
   have HPB_:=HPB.out.below hb
   have HXY_:=HXY.out.below hb HXY.out.lt
   have HFY_:=HFY.out.below hb
   clear HG HT HM HB HX8 HV HO HPB HXY HFY
   have HG:=hol HG_
   have HT:=hol HT_
   have HM:=hol HM_
   have HB:=hol HB_
   have HX8:=hol HX8_
   have HV:=hol HV_
   have HO:=hol HO_
   have HPB:=hol HPB_
   have HXY:=hol HXY_
   have HFY:=hol HFY_
   clear HG_ HT_ HM_ HB_ HX8_ HV_ HO_ HPB_ HXY_ HFY_
   clear hb
   simp only [frameOf,Nat.reduceAdd]
   generalize sp 2=y2,sp 3=y3 at *
   go_simp
   obtain rfl:=HNF.out
   clear HNF hNT
   obtain ⟨SS,hSS⟩:∃ S,strOf SB=S:=⟨_,rfl⟩
   obtain ⟨SM,hSM⟩:∃ S,strOf msg=S:=⟨_,rfl⟩
   have HSS:=hol hSS
   have HCB:Hold (∀ w',Below w13.heap.size w13 w' -> (convert 70 9 (.slice pb L cb)).run Tryz.prog w'=.ok (.string SS) w'):=⟨fun w' hb=>by rw [<- hSS]; exact convert_in (HPB.out.below hb).row⟩
   have HCO:Hold (∀ w',Below w13.heap.size w13 w' -> (convert 70 9 (.slice po nm co)).run Tryz.prog w'=.ok (.string SM) w' /\ (convert 70 9 (.slice pm nm cm)).run Tryz.prog w'=.ok (.string SM) w'):=⟨fun w' hb=>by rw [<- hSM]; exact ⟨convert_in (HO.out.below hb).row,convert_in (HM.out.below hb).row⟩⟩
   clear hSS hSM
   go_wp2
   refine wp_region_duties (by kernel_rfl) (by kernel_rfl)
    [some (.int .i64 0),some (.bool true),some (.bool true),some (.int .i64 0),some (.bool true),some (.bool true),some (.bool true),some (.slice pb L cb),some (.string SS),some (.agg #[.slice p0 n0 c0,.slice p1 n1 c1,.slice p2 n2 c2,.slice p3 n3 c3]),some (.int .u64 (X:Nat)),none,some (.slice pm nm cm),none,some (.string SS),some (.bool true),some (.bool true),some (.bool true),some (.slice pb L cb),some (.int .i64 (L:Nat)),some (.pointer (some ⟨b,0,none⟩)),none,some (.bool true),some (.bool true),some (.bool true),some (.slice po nm co),some (.string SM),some (.slice pm nm cm),some (.string SM),some (.bool true),some (.bool true),some (.bool true),some (.agg #[.slice py ny cy]),some (.pointer (some ⟨b,0,none⟩)),some (.pointer (some ⟨b,0,none⟩)),none,some (.int .u64 (X:Nat)),none,none,none,some (.bool true),some (.bool true),some (.bool true)]
    [false,false,false,false,false,false,false,false,false,false,false,true,false,true,false,false,false,false,false,false,false,true,false,false,false,false,false,false,false,false,false,false,false,false,false,true,false,true,true,true,false,false,false] rfl
    (fun w1 w2=>Below w1.heap.size w1 w2)
    (fun _ w'=>Below w13.heap.size w13 w')
    (fun i v w'=>match i with
     | 11=>RBits X v w'
     | 13=>OwnIs 0 SB v w'
     | 21=>v=.int .i64 (L:Nat)
     | 35=>Fit 33 G v w'
     | 37=>Fit 2 X v w'
     | 38=>Fit 33 (YY) v w'
     | 39=>v=.int .i64 0
     | _=>True)
    ?_ (Below.refl _ _).drew ?_ ?_
   ·intro i v w1 w2 hf hb
    split at hf
    ·exact hf.below hb
    ·exact hf.below hb
    ·exact hf
    ·exact hf.below hb
    ·exact hf.below hb
    ·exact hf.below hb
    ·exact hf
    ·trivial
   ·simp only [Duties,Nat.reduceAdd]
    refine ⟨?_,?_,?_,?_,?_,?_,?_,?_,?_,?_,?_,?_,?_,?_,?_,?_,?_,?_,?_,?_,?_,?_,?_,?_,?_,?_,?_,?_,?_,?_,?_,?_,?_,?_,?_,?_,?_,?_,?_,?_,?_,?_,?_,trivial⟩
    all_goals intro D sp w' hD hW hdp hbx'
    case refine_9 =>
     have cv:=HCB.out w' hbx'
     with_reducible refine asked_pl ?_ ?_
     all_goals simp [Region.wanted,yielded,execOp,Act.eval,Act.put,go_sem,cv]
    case refine_10 =>
     have hB4:=HX8.out.below hbx' HX8.out.lt
     have g0:=hB4.cells.1
     have g1:=hB4.cells.2.1
     have g2:=hB4.cells.2.2.1
     have g3:=hB4.cells.2.2.2
     with_reducible refine asked_pl ?_ ?_
     all_goals simp [Region.wanted,yielded,execOp,Act.eval,Act.put,go_sem,g0,g1,g2,g3]
    case refine_12 =>
     (with_reducible refine asked_call (w1:=w') (f := 26) (args:=#[.int .u64 (X:Nat)]) ?_ ?_ ?_)
     ·simp [Region.wanted,yielded,Act.put,go_sem]
     ·simp [Act.eval,Act.put,go_sem]
     ·refine (small_calls X w' HXl.out).mono ?_
      rintro en w9 ⟨q9,m9,d9,rfl,hu,hb,_⟩
      exact ⟨_,rfl,hb,RBits.of hu,bstep hbx' hb⟩
    case refine_14 =>
     have k11:RBits X (sp 11) w':=(hdp 11 (mq (by kernel_rfl))).2
     (with_reducible refine asked_call (w1:=w') (f := 50) (args:=#[.agg #[.slice p0 n0 c0,.slice p1 n1 c1,.slice p2 n2 c2,.slice p3 n3 c3],sp 11,.slice pm nm cm]) ?_ ?_ ?_)
     ·simp [Region.wanted,yielded,Act.put,go_sem]
     ·simp [Act.eval,Act.put,go_sem]
     ·refine (dsign_calls (HV.out.below hbx') k11 HXQ.out HGP.out HQ2.out HPf.out HQf.out (HM.out.below hbx') HZM.out HNM.out).mono ?_
      rintro en w9 ⟨u,rfl,hu,hb⟩
      rw [hSB] at hu
      exact ⟨_,rfl,hb,hu,bstep hbx' hb⟩
    case refine_15 =>
     have hf:OwnIs 0 SB (sp 13) w':=(hdp 13 (mq (by kernel_rfl))).2
     (with_reducible refine hf.elim (fun p9 c9 hv hr _ _=>?_))
     have k:=convert_in hr
     rw [HSS.out] at k
     with_reducible refine asked_pl ?_ ?_
     all_goals simp [Region.wanted,yielded,execOp,Act.eval,Act.put,go_sem,hv,k]
    case refine_20 =>
     (with_reducible refine asked_value (w1:=w') (v:=.int .i64 (L:Nat)) ?_ ?_ ?_)
     ·simp [Region.wanted,yielded,Act.put,go_sem]
     ·simp [Act.eval,Act.put,go_sem]
     ·exact ⟨rfl,rfl⟩
    case refine_22 =>
     (with_reducible refine asked_call (w1:=w') (f := 51) (args:=#[.pointer (some ⟨b,0,none⟩)]) ?_ ?_ ?_)
     ·simp [Region.wanted,yielded,Act.put,go_sem]
     ·simp [Act.eval,Act.put,go_sem]
     ·refine (size_fit (QAt.of (HG.out.below hbx')) HQf.out).mono ?_
      rintro en w9 ⟨rfl,hb⟩
      rw [HL2Q.out]
      exact ⟨_,rfl,hb,rfl,bstep hbx' hb⟩
    case refine_23 =>
     have k21:(sp 21)=.int .i64 (L:Nat):=(hdp 21 (mq (by kernel_rfl))).2
     with_reducible refine asked_pl ?_ ?_
     all_goals simp [Region.wanted,yielded,execOp,Act.eval,Act.put,go_sem,k21]
    case refine_27 =>
     have cv:=(HCO.out w' hbx').1
     with_reducible refine asked_pl ?_ ?_
     all_goals simp [Region.wanted,yielded,execOp,Act.eval,Act.put,go_sem,cv]
    case refine_29 =>
     have cv:=(HCO.out w' hbx').2
     with_reducible refine asked_pl ?_ ?_
     all_goals simp [Region.wanted,yielded,execOp,Act.eval,Act.put,go_sem,cv]
    case refine_33 =>
     have c0:=(HXY.out.below hbx' HXY.out.lt).cell
     with_reducible refine asked_pl ?_ ?_
     all_goals simp [Region.wanted,yielded,execOp,Act.eval,Act.put,go_sem,c0]
    case refine_36 =>
     (with_reducible refine asked_call (w1:=w') (f := 40) (args:=#[.pointer (some ⟨b,0,none⟩)]) ?_ ?_ ?_)
     ·simp [Region.wanted,yielded,Act.put,go_sem]
     ·simp [Act.eval,Act.put,go_sem]
     ·refine (gG_fit (HG.out.below hbx')).mono ?_
      rintro en w9 ⟨u,rfl,hu,hb⟩
      exact ⟨u,rfl,hb,hu,bstep hbx' hb⟩
    case refine_38 =>
     (with_reducible refine asked_call (w1:=w') (f := 20) (args:=#[.int .u64 (X:Nat)]) ?_ ?_ ?_)
     ·simp [Region.wanted,yielded,Act.put,go_sem]
     ·simp [Act.eval,Act.put,go_sem]
     ·refine (newnat_fit (n:=X) w' HXl.out).mono ?_
      rintro en w9 ⟨u,rfl,hu,hb⟩
      exact ⟨u,rfl,hb,hu,bstep hbx' hb⟩
    case refine_39 =>
     have k35:Fit 33 G (sp 35) w':=(hdp 35 (mq (by kernel_rfl))).2
     have k37:Fit 2 X (sp 37) w':=(hdp 37 (mq (by kernel_rfl))).2
     (with_reducible refine asked_call (w1:=w') (f := 39) (args:=#[.pointer (some ⟨b,0,none⟩),sp 35,sp 37]) ?_ ?_ ?_)
     ·simp [Region.wanted,yielded,Act.put,go_sem]
     ·simp [Act.eval,Act.put,go_sem]
     ·refine (gexp_fit (HG.out.below hbx') k35 k37 (by decide) (by decide)).mono ?_
      rintro en w9 ⟨u,rfl,hu,hb⟩
      rw [hYY] at hu
      exact ⟨u,rfl,hb,hu,bstep hbx' hb⟩
    case refine_40 =>
     have k38:Fit 33 (YY) (sp 38) w':=(hdp 38 (mq (by kernel_rfl))).2
     (with_reducible refine asked_call (w1:=w') (f := 35) (args:=#[.agg #[.slice py ny cy],sp 38]) ?_ ?_ ?_)
     ·simp [Region.wanted,yielded,Act.put,go_sem]
     ·simp [Act.eval,Act.put,go_sem]
     ·refine (cmp_fitK (HFY.out.below hbx') k38 (by decide) (by decide) (cmpI_zero.2 rfl)).mono ?_
      rintro en w9 ⟨u,rfl,rfl,hb⟩
      exact ⟨_,rfl,hb,rfl,bstep hbx' hb⟩
    case refine_41 =>
     have k39:(sp 39)=.int .i64 0:=(hdp 39 (mq (by kernel_rfl))).2
     with_reducible refine asked_pl ?_ ?_
     all_goals simp [Region.wanted,yielded,execOp,Act.eval,Act.put,go_sem,k39]
    all_goals ((with_reducible refine asked_pl ?_ ?_); all_goals first | (simp only [Region.wanted]; done) | simp [Region.wanted,yielded,execOp,Act.eval,Act.put,go_sem])
   ·intro sp w14 hsp hb
    have HBf:=hol (bstep HB.out hb)
    clear hsp hb hSB hYY
    simp only [frameOf,Nat.reduceAdd]
    generalize sp 11=y11,sp 13=y13,sp 21=y21,sp 35=y35,sp 37=y37,sp 38=y38,sp 39=y39 at *
    go_simp
    go_wp2
    go_ret
    exact ⟨rfl,HBf.out⟩
 ·have HKy:Hold _:=⟨hk⟩
  have hnf:NT=true:=by rw [<- hNT,<- hRT,decide_eq_false hk]; rfl
  have HNF:=hol hnf
  clear hk hnf hRT
  go_wp2_with fail
  refine (sign_err HG.out HT.out HN.out (by decide) HPf.out HQf.out HO.out HKy.out).mono ?_
  rintro en w9 ⟨rfl,hb⟩
  clear HN
  have HG_:=HG.out.below hb
  have HT_:=HT.out.below hb HT.out.size
  have HM_:=HM.out.below hb
  have HB_:=bstep HB.out hb
  have HX8_:=HX8.out.below hb HX8.out.lt
  have HV_:=HV.out.below hb
  have HO_:=HO.out.below hb
  clear HG HT HM HB HX8 HV HO
  have HG:=hol HG_
  have HT:=hol HT_
  have HM:=hol HM_
  have HB:=hol HB_
  have HX8:=hol HX8_
  have HV:=hol HV_
  have HO:=hol HO_
  clear HG_ HT_ HM_ HB_ HX8_ HV_ HO_
  clear hb
  go_wp2_with fail
  refine (newnat_fit (n:=X) w9 HXl.out).mono ?_
  rintro en w10 ⟨x10,rfl,h10,hb⟩
  have HN:=hol h10
  clear h10
  have HG_:=HG.out.below hb
  have HT_:=HT.out.below hb HT.out.size
  have HM_:=HM.out.below hb
  have HB_:=bstep HB.out hb
  have HX8_:=HX8.out.below hb HX8.out.lt
  have HV_:=HV.out.below hb
  have HO_:=HO.out.below hb
  clear HG HT HM HB HX8 HV HO
  have HG:=hol HG_
  have HT:=hol HT_
  have HM:=hol HM_
  have HB:=hol HB_
  have HX8:=hol HX8_
  have HV:=hol HV_
  have HO:=hol HO_
  clear HG_ HT_ HM_ HB_ HX8_ HV_ HO_
  clear hb
  go_wp2_with fail
  refine (public_err HG.out HN.out (by decide) HKy.out).mono ?_
  rintro en w11 ⟨rfl,hb⟩
  have hbn:Below w11.heap.size w11 (w11.alloc (.cells #[.slice none 0 0] 36)):=bal
  have hXn:=NatBox.made w11 (.slice none 0 0)
  obtain ⟨w12,hw12⟩:∃ W,w11.alloc (.cells #[.slice none 0 0] 36)=W:=⟨_,rfl⟩
  rw [hw12] at hbn hXn
  obtain ⟨b12,hb12⟩:∃ b,w11.heap.size=b:=⟨_,rfl⟩
  rw [hb12] at hXn
  have cx:=hXn.cell
  have fx:=hXn.free
  have hxs:=hXn.set (.slice none 0 0)
  have hbs:Below w11.heap.size w11 (w12.setCell ⟨b12,0,none⟩ (.slice none 0 0)):=hbn.setCell (by rw [<- hb12]; exact Nat.le_refl _) _
  obtain ⟨ws,hws⟩:∃ W,w12.setCell ⟨b12,0,none⟩ (.slice none 0 0)=W:=⟨_,rfl⟩
  rw [hws] at hxs hbs
  have hbn2:=bstep hb hbs
  have HXY:=hol hxs
  clear hb hbn hXn HN hxs hbs
  have HG_:=HG.out.below hbn2
  have HT_:=HT.out.below hbn2 HT.out.size
  have HM_:=HM.out.below hbn2
  have HB_:=bstep HB.out hbn2
  have HX8_:=HX8.out.below hbn2 HX8.out.lt
  have HV_:=HV.out.below hbn2
  have HO_:=HO.out.below hbn2
  clear HG HT HM HB HX8 HV HO
  have HG:=hol HG_
  have HT:=hol HT_
  have HM:=hol HM_
  have HB:=hol HB_
  have HX8:=hol HX8_
  have HV:=hol HV_
  have HO:=hol HO_
  clear HG_ HT_ HM_ HB_ HX8_ HV_ HO_
  clear hbn2
  go_wp2
  clear hw12 hb12 cx fx hws
  refine wp_region_duties (by kernel_rfl) (by kernel_rfl)
   [some (.agg #[.slice p0 n0 c0,.slice p1 n1 c1,.slice p2 n2 c2,.slice p3 n3 c3]),some (.int .u64 (X:Nat)),none,none,some (.bool NT)]
   [false,false,true,true,false] rfl
   (fun w1 w2=>Below w1.heap.size w1 w2)
   (fun _ w'=>Below ws.heap.size ws w')
   (fun i v w'=>match i with
    | 2=>RBits X v w'
    | 3=>v=.bool RT
    | _=>True)
   ?_ (Below.refl _ _).drew ?_ ?_
  ·intro i v w1 w2 hf hb
   split at hf
   ·exact hf.below hb
   ·exact hf
   ·trivial
  ·simp only [Duties,Nat.reduceAdd]
   refine ⟨?_,?_,?_,?_,?_,trivial⟩
   all_goals intro D sp w' hD hW hdp hbx'
   case refine_1 =>
    have hB4:=HX8.out.below hbx' HX8.out.lt
    have g0:=hB4.cells.1
    have g1:=hB4.cells.2.1
    have g2:=hB4.cells.2.2.1
    have g3:=hB4.cells.2.2.2
    with_reducible refine asked_pl ?_ ?_
    all_goals simp [Region.wanted,yielded,execOp,Act.eval,Act.put,go_sem,g0,g1,g2,g3]
   case refine_3 =>
    (with_reducible refine asked_call (w1:=w') (f := 26) (args:=#[.int .u64 (X:Nat)]) ?_ ?_ ?_)
    ·simp [Region.wanted,yielded,Act.put,go_sem]
    ·simp [Act.eval,Act.put,go_sem]
    ·refine (small_calls X w' HXl.out).mono ?_
     rintro en w9 ⟨q9,m9,d9,rfl,hu,hb,_⟩
     exact ⟨_,rfl,hb,RBits.of hu,bstep hbx' hb⟩
   case refine_4 =>
    have k2:RBits X (sp 2) w':=(hdp 2 (mq (by kernel_rfl))).2
    (with_reducible refine asked_call (w1:=w') (f := 49) (args:=#[.agg #[.slice p0 n0 c0,.slice p1 n1 c1,.slice p2 n2 c2,.slice p3 n3 c3],sp 2]) ?_ ?_ ?_)
    ·simp [Region.wanted,yielded,Act.put,go_sem]
    ·simp [Act.eval,Act.put,go_sem]
    ·refine (dright_calls (HV.out.below hbx') k2 HXb.out HQl.out).mono ?_
     rintro en w9 ⟨rfl,hb⟩
     rw [HRT.out]
     exact ⟨_,rfl,hb,rfl,bstep hbx' hb⟩
   case refine_5 =>
    have k3:(sp 3)=.bool RT:=(hdp 3 (mq (by kernel_rfl))).2
    with_reducible refine asked_pl ?_ ?_
    all_goals simp [Region.wanted,yielded,execOp,Act.eval,Act.put,go_sem,k3,hNT]
   all_goals ((with_reducible refine asked_pl ?_ ?_); all_goals first | (simp only [Region.wanted]; done) | simp [Region.wanted,yielded,execOp,Act.eval,Act.put,go_sem])
  ·intro sp w13 hsp hb
   clear hsp
   have HB_:=bstep HB.out hb
   have HXY_:=HXY.out.below hb HXY.out.lt
   clear HB HXY
   have HB:=hol HB_
   have HXY:=hol HXY_
   clear HB_ HXY_
   clear hb
   simp only [frameOf,Nat.reduceAdd]
   generalize sp 2=y2,sp 3=y3 at *
   go_simp
   obtain rfl:=HNF.out
   clear HNF hNT
   have cx:=HXY.out.cell
   have HZF:=hol (zero_fitB (fit_nil w13) (decide_eq_true rfl))
   go_wp2_with fail
   refine HZF.out.mono ?_
   rintro en w14 ⟨_,rfl,rfl,hb⟩
   have HBf:=hol (bstep HB.out hb)
   clear hb cx
   go_wp2
   go_ret
   exact ⟨rfl,HBf.out⟩
end Go.Proofs.YtdebccghjbfgdaaGreatDoor
