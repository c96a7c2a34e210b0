/- DleqVerifies, walked: whether any bytes prove any claim is as the document says. -/
import Derived.Test.YthgoeiegdhphjaaGreatDoorDlE
import Derived.Test.YthgoeiegdhphjaaGreatDoorDlV
set_option maxRecDepth 1000000
set_option maxHeartbeats 16000000
set_option linter.unusedSimpArgs false
set_option linter.unusedVariables false
namespace Go.Proofs.YthgoeiegdhphjaaGreatDoor
open Go Go.RowKit Go.Proofs.YthgoeiegdhphjaaGreatDoor.Flow
def Zf (raw:Bool)(P G x:Nat):Nat:=if raw then x else G^x%P
theorem Ig {w:World}{b P Q G H x:Nat}(raw:Bool)(hg:Ax w b P Q G H)(hx:x<18446744073709551616) :
  Calls Tryz.prog 54 #[.pointer (some ⟨b,0,none⟩),.int .u64 (x:Nat),.bool raw] w fun en w'=>∃u,en=.returned u/\Fit 33 (Zf raw P G x) u w'/\Below w.heap.size w w':=by
 cases raw with
 | true=>exact Ze hx
 | false=>exact cJ hg hx
theorem Xe {w:World}{nm cm ns cs:Nat}{u0 u1 u2 u3:Value}{pm ps:Option Addr}{sig:List Nat}(hs:Ar w ⟨ps,ns,cs,sig⟩) :
  Calls Tryz.prog 58 #[.pointer none,.agg #[u0,u1,u2,u3],.slice pm nm cm,.slice ps ns cs] w fun en w'=>en=.returned (.bool false)/\Below w.heap.size w w':=by
 have hb0:Below w.heap.size w (w.alloc (.cells #[u0,u1,u2,u3] 83)):=Bt;obtain⟨wa,hwa⟩:∃wa,w.alloc (.cells #[u0,u1,u2,u3] 83)=wa:=⟨_,rfl⟩
 rw[hwa]at hb0
 have HS:=Ac (Ur (Q:=0) (g0:=.pointer none) (.inr ⟨rfl,rfl⟩) (by decide) (hs.below hb0));have HB:=Ac hb0;clear hs hb0;go_enter Tryz.func58,Tryz.ntmps58
 go_wp2_with fail
 refine HS.out.mono ?_;rintro en w1 ⟨x,y,X,rfl,hX,_,hb1⟩;have hXf:X=false:=by
  cases X with
  | false=>rfl
  | true=>exact absurd (hX.1 rfl).2.1 (Nat.not_lt_zero _)
 subst hXf;have HB2:Aa (Below w.heap.size w (w1.alloc (.cells #[.slice x.1 x.2.1 x.2.2,.slice y.1 y.2.1 y.2.2] 142))):=⟨Ae HB.out (Ae hb1 ((Below.refl _ _).alloc (Nat.le_refl _) _))⟩
 clear hX hb1 HS;go_wp2;go_ret;exact⟨rfl,HB2.out⟩
theorem Ph (w:World)(hr:Tabs w)(A0:Int)(a:Nat)(ha:pV a)(d:Nat)(hd:pV d)(y:Nat)(hy:pV y)(z:Nat)(hz:pV z)(raw:Bool)(pm:Option Addr)(nm cm:Nat)(msg:List Nat)(hm:Ar w ⟨pm,nm,cm,msg⟩)(hzm:pm=none->cm=0)(ps:Option Addr)(ns cs:Nat)(sig:List Nat)(hs:Ar w ⟨ps,ns,cs,sig⟩) :
  Calls Tryz.prog 11 #[.int .i64 A0,.int .u64 (a:Nat),.int .u64 (d:Nat),.int .u64 (y:Nat),.int .u64 (z:Nat),.bool raw,.slice pm nm cm,.slice ps ns cs] w fun e w'=>e=.returned (.bool true)/\Below w.heap.size w w':=by
 have HLI:=Ac Ty;have HT0:=Ac hr;have HM0:=Ac hm;have HS0:=Ac hs;have HZM:=Ac hzm;have Hal:Aa (a<18446744073709551616):=⟨ha⟩
 have Hdl:Aa (d<18446744073709551616):=⟨hd⟩
 have Hyl:Aa (y<18446744073709551616):=⟨hy⟩
 have Hzl:Aa (z<18446744073709551616):=⟨hz⟩
 have hcap:nm<=cm:=hm.row.cap;have hmax:cm<=9223372036854775807:=hm.row.max;have hcap2:ns<=cs:=hs.row.cap;have hmax2:cs<=9223372036854775807:=hs.row.max;obtain⟨i,hi⟩:∃i,((IntKind.u64.wrap A0)%3).toNat=i:=⟨_,rfl⟩
 have HI3:Aa (i<3):=⟨by rw[<- hi];exact kS A0⟩
 have HI:=Ac hi;clear hr hi hm hs ha hd hy hz hzm;go_enter Tryz.func11,Tryz.ntmps11
 go_wp2_with fail
 refine(HLI.out w HT0.out).mono ?_;rintro en w1 ⟨rfl,b1⟩;have B1:=Ac b1;clear b1
 by_cases hn3:300<nm
 .have hn3':(300:Int)<nm:=by omega
  go_wp2_with fail
  refine(HLI.out w1 (HT0.out.below B1.out HT0.out.size)).mono ?_;rintro en w2 ⟨rfl,b2⟩;have B2:=Ac (Ae B1.out b2);clear b2;go_wp2;go_ret;exact⟨rfl,B2.out⟩
 have hn3':¬(300:Int)<nm:=by omega
 have HNM:Aa (nm<=1000):=⟨by omega⟩
 by_cases hn4:300<ns
 .have hn4':(300:Int)<ns:=by omega
  go_wp2_with fail
  refine(HLI.out w1 (HT0.out.below B1.out HT0.out.size)).mono ?_;rintro en w2 ⟨rfl,b2⟩;have B2:=Ac (Ae B1.out b2);clear b2;go_wp2;go_ret;exact⟨rfl,B2.out⟩
 have hn4':¬(300:Int)<ns:=by omega
 go_wp2_with fail
 refine(Mm w1 A0 (HT0.out.below B1.out HT0.out.size)).mono ?_;rintro en w2 ⟨b,rfl,hg2,b2⟩;rw[HI.out]at hg2
 obtain⟨P,hP⟩:∃P,gP i=P:=⟨_,rfl⟩
 obtain⟨Q,hQ⟩:∃P,gQ i=P:=⟨_,rfl⟩
 obtain⟨G,hG⟩:∃P,gG i=P:=⟨_,rfl⟩
 obtain⟨H,hH⟩:∃P,gH i=P:=⟨_,rfl⟩
 have HP2:Aa (2<=P):=⟨by rw[<- hP];exact qN i HI3.out⟩
 have HQ2:Aa (2<=Q):=⟨by rw[<- hQ];exact kZ i HI3.out⟩
 have HPf:Aa (Am P<=16):=⟨by rw[<- hP];exact Wz i HI3.out⟩
 have HQf:Aa (Am Q<=16):=⟨by rw[<- hQ];exact cW i HI3.out⟩
 rw[hP,hQ,hG,hH]at hg2
 have HG:=Ac hg2;have hbb:=Ae B1.out b2;have HT:=Ac (HT0.out.below hbb HT0.out.size);have HM:=Ac (HM0.out.below hbb);have HSG:=Ac (HS0.out.below hbb);have HB:=Ac hbb;clear hg2 b2 hbb hP hQ hG hH B1
 go_wp2_with fail
 refine(Ig false HG.out Hal.out).mono ?_;rintro en wna ⟨_,rfl,⟨pa,na,ca,rfl,h,l⟩,hb⟩;obtain⟨AA,hN⟩:∃N,Zf false P G a=N:=⟨_,rfl⟩
 rw[hN]at h l
 clear hN;have HG_:=HG.out.below hb;have HT_:=HT.out.below hb HT.out.size;have HM_:=HM.out.below hb;have HSG_:=HSG.out.below hb;have HB_:=Ae HB.out hb;clear HG HT HM HSG HB;have HG:=Ac HG_;have HT:=Ac HT_;have HM:=Ac HM_;have HSG:=Ac HSG_;have HB:=Ac HB_;clear HG_ HT_ HM_ HSG_ HB_;have HFa:=Ac (Fit.of h l);clear h l hb
 go_wp2_with fail
 refine(Ig false HG.out Hdl.out).mono ?_;rintro en wnb ⟨_,rfl,⟨pb,nb,cb,rfl,h,l⟩,hb⟩;obtain⟨BB,hN⟩:∃N,Zf false P G d=N:=⟨_,rfl⟩
 rw[hN]at h l
 clear hN;have HG_:=HG.out.below hb;have HT_:=HT.out.below hb HT.out.size;have HM_:=HM.out.below hb;have HSG_:=HSG.out.below hb;have HB_:=Ae HB.out hb;have HFa_:=HFa.out.below hb;clear HG HT HM HSG HB HFa;have HG:=Ac HG_;have HT:=Ac HT_;have HM:=Ac HM_;have HSG:=Ac HSG_;have HB:=Ac HB_;have HFa:=Ac HFa_;clear HG_ HT_ HM_ HSG_ HB_ HFa_;have HFb:=Ac (Fit.of h l);clear h l hb
 go_wp2_with fail
 refine(Ig raw HG.out Hyl.out).mono ?_;rintro en wny ⟨_,rfl,⟨py,ny,cy,rfl,h,l⟩,hb⟩;obtain⟨YY,hN⟩:∃N,Zf raw P G y=N:=⟨_,rfl⟩
 rw[hN]at h l
 clear hN;have HG_:=HG.out.below hb;have HT_:=HT.out.below hb HT.out.size;have HM_:=HM.out.below hb;have HSG_:=HSG.out.below hb;have HB_:=Ae HB.out hb;have HFa_:=HFa.out.below hb;have HFb_:=HFb.out.below hb;clear HG HT HM HSG HB HFa HFb;have HG:=Ac HG_;have HT:=Ac HT_;have HM:=Ac HM_;have HSG:=Ac HSG_;have HB:=Ac HB_;have HFa:=Ac HFa_;have HFb:=Ac HFb_;clear HG_ HT_ HM_ HSG_ HB_ HFa_ HFb_;have HFy:=Ac (Fit.of h l);clear h l hb
 go_wp2_with fail
 refine(Ig false HG.out Hzl.out).mono ?_;rintro en wnz ⟨_,rfl,⟨pz,nz,cz,rfl,h,l⟩,hb⟩;obtain⟨ZZ,hN⟩:∃N,Zf false P G z=N:=⟨_,rfl⟩
 rw[hN]at h l
 clear hN;have HG_:=HG.out.below hb;have HT_:=HT.out.below hb HT.out.size;have HM_:=HM.out.below hb;have HSG_:=HSG.out.below hb;have HB_:=Ae HB.out hb;have HFa_:=HFa.out.below hb;have HFb_:=HFb.out.below hb;have HFy_:=HFy.out.below hb;clear HG HT HM HSG HB HFa HFb HFy;have HG:=Ac HG_;have HT:=Ac HT_;have HM:=Ac HM_;have HSG:=Ac HSG_;have HB:=Ac HB_;have HFa:=Ac HFa_;have HFb:=Ac HFb_;have HFy:=Ac HFy_;clear HG_ HT_ HM_ HSG_ HB_ HFa_ HFb_ HFy_;have HFz:=Ac (Fit.of h l);clear h l hb;have hb8:Below wnz.heap.size wnz (wnz.alloc (.cells #[.slice pa na ca,.slice pb nb cb,.slice py ny cy,.slice pz nz cz] 83)):=Bt;have hx8:=Ce.made 83 wnz (.slice pa na ca) (.slice pb nb cb) (.slice py ny cy) (.slice pz nz cz);obtain⟨b9,hb9⟩:∃b,wnz.heap.size=b:=⟨_,rfl⟩
 obtain⟨w8,hw8⟩:∃W,wnz.alloc (.cells #[.slice pa na ca,.slice pb nb cb,.slice py ny cy,.slice pz nz cz] 83)=W:=⟨_,rfl⟩
 rw[hw8]at hb8 hx8
 rw[hb9]at hx8
 have HCB:=Ac hx8;have HG_:=HG.out.below hb8;have HT_:=HT.out.below hb8 HT.out.size;have HM_:=HM.out.below hb8;have HSG_:=HSG.out.below hb8;have HB_:=Ae HB.out hb8;have HFa_:=HFa.out.below hb8;have HFb_:=HFb.out.below hb8;have HFy_:=HFy.out.below hb8;have HFz_:=HFz.out.below hb8;clear HG HT HM HSG HB HFa HFb HFy HFz;have HG:=Ac HG_;have HT:=Ac HT_;have HM:=Ac HM_;have HSG:=Ac HSG_;have HB:=Ac HB_;have HFa:=Ac HFa_;have HFb:=Ac HFb_;have HFy:=Ac HFy_;have HFz:=Ac HFz_;clear HG_ HT_ HM_ HSG_ HB_ HFa_ HFb_ HFy_ HFz_;have HCA:Aa (AtC AA BB YY ZZ (pa,na,ca) (pb,nb,cb) (py,ny,cy) (pz,nz,cz) w8):=⟨⟨Dk HFa.out,Dk HFb.out,Dk HFy.out,Dk HFz.out⟩⟩
 have HAb:=Ac HFa.out.lim;have HBb:=Ac HFb.out.lim;have HYb:=Ac HFy.out.lim;have HZb:=Ac HFz.out.lim;have HAl:Aa (Al AA<=100000):=⟨by have:=Tf HAb.out;omega⟩
 have HBl:Aa (Al BB<=100000):=⟨by have:=Tf HBb.out;omega⟩
 have HYl:Aa (Al YY<=100000):=⟨by have:=Tf HYb.out;omega⟩
 have HZl:Aa (Al ZZ<=100000):=⟨by have:=Tf HZb.out;omega⟩
 obtain⟨VX,hVX⟩:∃B:Bool,(B=true ↔ Gt P Q AA BB YY ZZ msg sig):=⟨@decide (Gt P Q AA BB YY ZZ msg sig) (Classical.propDecidable _),by simp⟩
 have HVX:Aa (∀X9:Bool,(X9=true ↔ Gt P Q AA BB YY ZZ msg sig)->X9=VX):=⟨fun X9 h9=>by rw[Bool.eq_iff_iff,h9,hVX]⟩
 clear hVX hb8 hx8 HFa HFb HFy HFz;go_wp2;clear hw8 hb9;refine Ai (by kernel_rfl) (by kernel_rfl)
  [some (.pointer (some ⟨b,0,none⟩)),some (.agg #[.slice pa na ca,.slice pb nb cb,.slice py ny cy,.slice pz nz cz]),some (.slice pm nm cm),some (.slice ps ns cs),none,some (.pointer (some ⟨b,0,none⟩)),none,some (.agg #[.slice pa na ca,.slice pb nb cb,.slice py ny cy,.slice pz nz cz]),none,some (.slice pm nm cm),some (.slice ps ns cs),none,some (.bool true),some (.bool true),some (.agg #[.slice pa na ca,.slice pb nb cb,.slice py ny cy,.slice pz nz cz]),some (.slice pm nm cm),some (.slice ps ns cs),none,some (.bool true),some (.bool true),some (.bool true)]
  [false,false,false,false,true,false,true,false,true,false,false,true,false,false,false,false,false,true,false,false,false] rfl
  (fun w1 w2=>Below w1.heap.size w1 w2)
  (fun _ w'=>Below w8.heap.size w8 w')
  (fun i v w'=>match i with
   | 4=>v=.bool VX
   | 6=>Cq P Q G H v w'
   | 8=>Ui AA BB YY ZZ v w'
   | 11=>v=.bool VX
   | 17=>v=.bool false
   | _=>True)
  ?_ (Below.refl _ _).drew ?_ ?_
 .intro i v w1 w2 hf hb;split at hf
  .exact hf
  .exact hf.below hb
  .exact hf.below hb
  .exact hf
  .exact hf
  .trivial
 .simp only[Ba,Nat.reduceAdd];refine⟨?_,?_,?_,?_,?_,?_,?_,?_,?_,?_,?_,?_,?_,?_,?_,?_,?_,?_,?_,?_,?_,trivial⟩
  all_goals intro D sp w' hD hW hdp hbx'
  case refine_2|refine_8|refine_15 =>
   have g4:=(cells4 (HCB.out.below hbx' HCB.out.lt).at_).1
   with_reducible refine Ad ?_ ?_
   all_goals simp[Region.wanted,yielded,execOp,Act.eval,Act.put,go_sem,g4.1,g4.2.1,g4.2.2.1,g4.2.2.2]
  case refine_5 =>
   (with_reducible refine Ab (w1:=w') (f := 58) (args:=#[.pointer (some ⟨b,0,none⟩),.agg #[.slice pa na ca,.slice pb nb cb,.slice py ny cy,.slice pz nz cz],.slice pm nm cm,.slice ps ns cs]) ?_ ?_ ?_)
   .simp[Region.wanted,yielded,Act.put,go_sem]
   .simp[Act.eval,Act.put,go_sem]
   .refine(Ok (HG.out.below hbx') (HT.out.below hbx' HT.out.size) (xa:=(pa,na,ca)) (xb:=(pb,nb,cb)) (xy:=(py,ny,cy)) (xz:=(pz,nz,cz)) (HCA.out.below hbx') HAb.out HBb.out HYb.out HZb.out HPf.out HQf.out (HM.out.below hbx') (HSG.out.below hbx')).mono ?_;rintro en w9 ⟨X9,rfl,hX9,hb⟩;have hf9:=HVX.out X9 hX9;rw[hf9];exact⟨_,rfl,hb,rfl,Ae hbx' hb⟩
  case refine_7 =>
   (with_reducible refine Ab (w1:=w') (f := 16) (args:=#[.pointer (some ⟨b,0,none⟩)]) ?_ ?_ ?_)
   .simp[Region.wanted,yielded,Act.put,go_sem]
   .simp[Act.eval,Act.put,go_sem]
   .refine(Yr (HG.out.below hbx')).mono ?_;rintro en w9 ⟨u,rfl,hu,hb⟩;exact⟨u,rfl,hb,hu,Ae hbx' hb⟩
  case refine_9 =>
   (with_reducible refine Ab (w1:=w') (f := 60) (args:=#[.agg #[.slice pa na ca,.slice pb nb cb,.slice py ny cy,.slice pz nz cz]]) ?_ ?_ ?_)
   .simp[Region.wanted,yielded,Act.put,go_sem]
   .simp[Act.eval,Act.put,go_sem]
   .refine(cC (xa:=(pa,na,ca)) (xb:=(pb,nb,cb)) (xy:=(py,ny,cy)) (xz:=(pz,nz,cz)) (HCA.out.below hbx') HAb.out HBb.out HYb.out HZb.out).mono ?_;rintro en w9 ⟨u,rfl,hu,hb⟩;exact⟨u,rfl,hb,hu,Ae hbx' hb⟩
  case refine_12 =>
   have k6:Cq P Q G H (sp 6) w':=(hdp 6 (mq (by kernel_rfl))).2;have hx:∃xa xb xy xz:Option Addr×Nat×Nat,sp 8=.agg #[.slice xa.1 xa.2.1 xa.2.2,.slice xb.1 xb.2.1 xb.2.2,.slice xy.1 xy.2.1 xy.2.2,.slice xz.1 xz.2.1 xz.2.2]/\Qw AA BB YY ZZ xa xb xy xz w':=(hdp 8 (mq (by kernel_rfl))).2
   (with_reducible refine Exists.elim hx fun xa hx1=>Exists.elim hx1 fun xb hx2=>Exists.elim hx2 fun xy hx3=>Exists.elim hx3 fun xz hx4=>?_)
   have h1:=hx4.1
   (with_reducible refine Ab (w1:=w') (f := 59) (args:=#[sp 6,.agg #[.slice xa.1 xa.2.1 xa.2.2,.slice xb.1 xb.2.1 xb.2.2,.slice xy.1 xy.2.1 xy.2.2,.slice xz.1 xz.2.1 xz.2.2],.slice pm nm cm,.slice ps ns cs]) ?_ ?_ ?_)
   .simp only[Region.wanted]
   .simp[Act.eval,Act.put,go_sem,h1]
   .refine(Sx k6 hx4.2 HAl.out HBl.out HYl.out HZl.out HQ2.out HP2.out HPf.out HQf.out (HM.out.below hbx') HZM.out HNM.out (HSG.out.below hbx')).mono ?_;rintro en w9 ⟨X9,rfl,hX9,hb⟩;have hf9:=HVX.out X9 hX9;rw[hf9];exact⟨_,rfl,hb,rfl,Ae hbx' hb⟩
  case refine_13 =>
   have k4:(sp 4)=.bool VX:=(hdp 4 (mq (by kernel_rfl))).2;have k11:(sp 11)=.bool VX:=(hdp 11 (mq (by kernel_rfl))).2
   with_reducible refine Ad ?_ ?_
   all_goals simp[Region.wanted,yielded,execOp,Act.eval,Act.put,go_sem,k4,k11]
  case refine_18 =>
   (with_reducible refine Ab (w1:=w') (f := 58) (args:=#[.pointer none,.agg #[.slice pa na ca,.slice pb nb cb,.slice py ny cy,.slice pz nz cz],.slice pm nm cm,.slice ps ns cs]) ?_ ?_ ?_)
   .simp[Region.wanted,yielded,Act.put,go_sem]
   .simp[Act.eval,Act.put,go_sem]
   .refine(Xe (HSG.out.below hbx')).mono ?_;rintro en w9 ⟨rfl,hb⟩;exact⟨_,rfl,hb,rfl,Ae hbx' hb⟩
  case refine_19 =>
   have k17:(sp 17)=.bool false:=(hdp 17 (mq (by kernel_rfl))).2
   with_reducible refine Ad ?_ ?_
   all_goals simp[Region.wanted,yielded,execOp,Act.eval,Act.put,go_sem,k17]
  all_goals ((with_reducible refine Ad ?_ ?_);all_goals first|(simp only[Region.wanted];done)|simp[Region.wanted,yielded,execOp,Act.eval,Act.put,go_sem])
 .intro sp w9 hsp hb;have HBf:=Ac (Ae HB.out hb);clear hsp hb;simp only[An,Nat.reduceAdd];generalize sp 4=y4,sp 6=y6,sp 8=y8,sp 11=y11,sp 17=y17 at *
  go_simp
  go_wp2;go_ret;exact⟨rfl,HBf.out⟩
end Go.Proofs.YthgoeiegdhphjaaGreatDoor
