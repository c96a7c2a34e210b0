/- SignKeys, walked: the public member of a sum of keys is the product of theirs. -/
import Derived.Test.YthgoeiegdhphjaaGreatDoorSgG
set_option maxRecDepth 1000000
set_option maxHeartbeats 16000000
set_option linter.all false
namespace Go.Proofs.YthgoeiegdhphjaaGreatDoor
open Go Go.RowKit Go.Proofs.YthgoeiegdhphjaaGreatDoor.Flow
theorem Jr {w:World}{b P Q G H e A:Nat}{v:Value}{K:Int}{Y:Nat}(h:Ay w b P Q G H)(hv:Fit e A v w)(he:e<=30000)(hA:A<Q)(hK:K=if A=0 then 1 else 0)(hY:Y=if A=0 then 0 else G^A%P) :
  Calls Tryz.prog 37 #[.pointer (some ⟨b,0,none⟩),v] w fun en w'=>∃x,en=.returned (.tuple #[x,.int .i64 K])/\Fit 33 Y x w'/\Below w.heap.size w w':=by
 by_cases h0:A=0
 .rw[if_pos h0]at hK hY
  subst hK hY;refine(Vt h hv he (by omega)).mono ?_;rintro en w' ⟨rfl,hb⟩;exact⟨_,rfl,Fit.of (Ag.nil _) (by decide),hb⟩
 .rw[if_neg h0]at hK hY
  subst hK hY;exact Lw h hv he ⟨by omega,hA⟩
theorem Tm (w:World)(hr:Tabs w)(A0:Int)(X:Nat)(hX:iE X)(Y:Nat)(hY:iE Y) :
  Calls Tryz.prog 9 #[.int .i64 A0,.int .u64 (X:Nat),.int .u64 (Y:Nat)] w fun e w'=>e=.returned (.bool true)/\Below w.heap.size w w':=by
 have HLI:=Aa (Py w hr);have HT:=Aa hr;have HXl:Ad (X<18446744073709551616):=⟨hX⟩
 have HYl:Ad (Y<18446744073709551616):=⟨hY⟩
 obtain⟨i,hi⟩:∃i,((IntKind.u64.wrap A0)%3).toNat=i:=⟨_,rfl⟩
 have HI3:Ad (i<3):=⟨by rw[<-hi];exact bU A0⟩
 have HI:=Aa hi;clear hr hX hY hi;go_enter Tryz.func9,Tryz.ntmps9
 go_wp2_with fail
 refine HLI.out.mono ?_;rintro en w1 ⟨rfl,b1⟩;have B1:=Aa b1;clear b1 HLI
 go_wp2_with fail
 refine(Jn w1 A0 (HT.out.below B1.out HT.out.size)).mono ?_;rintro en w2 ⟨b,rfl,hg2,b2⟩;rw[HI.out]at hg2
 obtain⟨P,hP⟩:∃P,gP i=P:=⟨_,rfl⟩
 obtain⟨Q,hQ⟩:∃P,gQ i=P:=⟨_,rfl⟩
 obtain⟨G,hG⟩:∃P,gG i=P:=⟨_,rfl⟩
 obtain⟨H,hH⟩:∃P,gH i=P:=⟨_,rfl⟩
 have HP2:Ad (2<=P/\2<=Q/\G^Q%P=1):=⟨by rw[<-hP,<-hQ,<-hG];exact⟨gD i HI3.out,cH i HI3.out,Mc i HI3.out⟩⟩
 rw[hP,hQ,hG,hH]at hg2
 have HG2:=Aa hg2;have B2:=Aa (Af B1.out b2);clear hg2 b2 hP hQ hG hH B1
 go_wp2_with fail
 refine(Jz HG2.out).mono ?_;rintro en w3 ⟨r,rfl,hr3,b3⟩;have HR3:=Aa hr3;have HG3:=Aa (HG2.out.below b3);have B3:=Aa (Af B2.out b3);clear hr3 b3 HG2 B2;obtain⟨A,hA⟩:∃A,X%Q=A:=⟨_,rfl⟩
 obtain⟨B,hB⟩:∃A,Y%Q=A:=⟨_,rfl⟩
 obtain⟨C,hC⟩:∃Z,(A+B)%Q=Z:=⟨_,rfl⟩
 have HEA:=Aa hA;have HEB:=Aa hB;have HEC:=Aa hC;have HAl:Ad (A<Q):=⟨by rw[<-hA];exact Nat.mod_lt _ (by have:=HP2.out;omega)⟩
 have HBl:Ad (B<Q):=⟨by rw[<-hB];exact Nat.mod_lt _ (by have:=HP2.out;omega)⟩
 have HCl:Ad (C<Q):=⟨by rw[<-hC];exact Nat.mod_lt _ (by have:=HP2.out;omega)⟩
 clear hA hB hC
 go_wp2_with fail
 refine(Dt (n:=X) w3 HXl.out).mono ?_;rintro en w4 ⟨x4,rfl,h4,b4⟩;have H4:=Aa h4;have HR4:=Aa (HR3.out.below b4);have HG4:=Aa (HG3.out.below b4);have B4:=Aa (Af B3.out b4);clear h4 b4 HR3 HG3 B3
 go_wp2_with fail
 refine(Dc HR4.out H4.out (by decide)).mono ?_;rintro en w5 ⟨_,rfl,⟨pa,na,ca,rfl,h5,l5⟩,b5⟩;rw[HEA.out]at h5 l5
 have H5:=Aa (Fit.of h5 l5);have HR5:=Aa (HR4.out.below b5);have HG5:=Aa (HG4.out.below b5);have B5:=Aa (Af B4.out b5);clear h5 l5 b5 HR4 HG4 B4 H4
 go_wp2_with fail
 refine(Dt (n:=Y) w5 HYl.out).mono ?_;rintro en w6 ⟨x6,rfl,h6,b6⟩;have H6:=Aa h6;have H56:=Aa (H5.out.below b6);have HR6:=Aa (HR5.out.below b6);have HG6:=Aa (HG5.out.below b6);have B6:=Aa (Af B5.out b6);clear h6 b6 HR5 HG5 B5 H5
 go_wp2_with fail
 refine(Dc HR6.out H6.out (by decide)).mono ?_;rintro en w7 ⟨_,rfl,⟨pb,nb,cb,rfl,h7,l7⟩,b7⟩;rw[HEB.out]at h7 l7
 have hm:=Xh.mk2 w7 (.slice pa na ca) (.slice pb nb cb);obtain⟨b9,hb9⟩:∃b,w7.heap.size=b:=⟨_,rfl⟩
 obtain⟨w8,hw8⟩:∃W,(w7.alloc (.cells #[.slice pa na ca] 36)).alloc (.cells #[.slice pb nb cb] 36)=W:=⟨_,rfl⟩
 have hz8:(w7.alloc (.cells #[.slice pa na ca] 36)).heap.size=b9+1:=by rw[<-hb9];simp
 rw[hw8]at hm
 have hmA:=hm.b0;have hmB:=hm.b1;have b8:=Af b7 hm.bel;rw[hb9]at hmA hmB
 have HXA8:=Aa hmA;have HXB8:=Aa hmB;have HFA8:=Aa (H56.out.below b8);have HFB8:=Aa ((Fit.of h7 l7).below hm.bel);have HR8:=Aa (HR6.out.below b8);have HG8:=Aa (HG6.out.below b8);have B8:=Aa (Af B6.out b8);have cA:=hmA.cell;have cB:=hmB.cell;clear h7 l7 b7 b8 hm hmA hmB HR6 HG6 B6 H56 H6
 go_wp2_with fail
 clear hw8 hz8 hb9;refine(Jp HR8.out HFA8.out HFB8.out (by decide) (by decide)).mono ?_;rintro en w9 ⟨_,rfl,⟨pc,nc,cc,rfl,h9,l9⟩,b9'⟩;rw[HEC.out]at h9 l9
 have hb10:Below w9.heap.size w9 (w9.alloc (.cells #[.slice pc nc cc] 36)):=Cf;have hX10:=Ae.made w9 (.slice pc nc cc);obtain⟨w10,hw10⟩:∃W,w9.alloc (.cells #[.slice pc nc cc] 36)=W:=⟨_,rfl⟩
 rw[hw10]at hb10 hX10
 obtain⟨b11,hb11⟩:∃b,w9.heap.size=b:=⟨_,rfl⟩
 rw[hb11]at hX10
 have b10:=Af b9' hb10;have HXA:=Aa (HXA8.out.below b10 HXA8.out.lt);have HXB:=Aa (HXB8.out.below b10 HXB8.out.lt);have HXC:=Aa hX10;have HFA:=Aa (HFA8.out.below b10);have HFB:=Aa (HFB8.out.below b10);have HFC:=Aa ((Fit.of h9 l9).below hb10);have HG:=Aa (HG8.out.below b10);have HB:=Aa (Af B8.out b10);clear h9 l9 b9' hb10 hX10 b10 HXA8 HXB8 HFA8 HFB8 HR8 HG8 B8 cA cB;have cA:=HXA.out.cell;have cB:=HXB.out.cell;have cC:=HXC.out.cell;obtain⟨KA,hKA⟩:∃K:Int,K=if A=0 then 1 else 0:=⟨_,rfl⟩
 obtain⟨KB,hKB⟩:∃K:Int,K=if B=0 then 1 else 0:=⟨_,rfl⟩
 obtain⟨KC,hKC⟩:∃K:Int,K=if C=0 then 1 else 0:=⟨_,rfl⟩
 obtain⟨YA,hYA⟩:∃K,K=if A=0 then 0 else G^A%P:=⟨_,rfl⟩
 obtain⟨YB,hYB⟩:∃K,K=if B=0 then 0 else G^B%P:=⟨_,rfl⟩
 obtain⟨YC,hYC⟩:∃K,K=if C=0 then 0 else G^C%P:=⟨_,rfl⟩
 have HKA:=Aa hKA;have HKB:=Aa hKB;have HKC:=Aa hKC;have HYA:=Aa hYA;have HYB:=Aa hYB;have HYC:=Aa hYC;clear hKA hKB hKC hYA hYB hYC
 go_wp2_with fail
 clear hw10 hb11;refine(Jr HG.out HFA.out (by decide) HAl.out HKA.out HYA.out).mono ?_;rintro en v1 ⟨_,rfl,⟨px,nx,cx,rfl,h,l⟩,hb⟩;have hbn:Below v1.heap.size v1 (v1.alloc (.cells #[.slice px nx cx] 36)):=Cf;have hXn:=Ae.made v1 (.slice px nx cx);obtain⟨u1,hu1⟩:∃W,v1.alloc (.cells #[.slice px nx cx] 36)=W:=⟨_,rfl⟩
 rw[hu1]at hbn hXn
 obtain⟨d1,hd1⟩:∃b,v1.heap.size=b:=⟨_,rfl⟩
 rw[hd1]at hXn
 have hbn2:=Af hb hbn;have HXA_:=HXA.out.below hbn2 HXA.out.lt;have HFA_:=HFA.out.below hbn2;have HXB_:=HXB.out.below hbn2 HXB.out.lt;have HFB_:=HFB.out.below hbn2;have HXC_:=HXC.out.below hbn2 HXC.out.lt;have HFC_:=HFC.out.below hbn2;have HG_:=HG.out.below hbn2;have HB_:=Af HB.out hbn2;have HXP:=Aa hXn;have HFP:=Aa ((Fit.of h l).below hbn);clear h l hb hbn hbn2 hXn HG HB HXA HFA HXB HFB HXC HFC cA cB cC;have HXA:=Aa HXA_;have HFA:=Aa HFA_;have HXB:=Aa HXB_;have HFB:=Aa HFB_;have HXC:=Aa HXC_;have HFC:=Aa HFC_;have HG:=Aa HG_;have HB:=Aa HB_;clear HG_ HB_ HXA_ HFA_ HXB_ HFB_ HXC_ HFC_;have cA:=HXA.out.cell;have cB:=HXB.out.cell;have cC:=HXC.out.cell
 go_wp2_with fail
 clear hu1 hd1;refine(Jr HG.out HFB.out (by decide) HBl.out HKB.out HYB.out).mono ?_;rintro en v2 ⟨_,rfl,⟨py,ny,cy,rfl,h,l⟩,hb⟩;have hbn:Below v2.heap.size v2 (v2.alloc (.cells #[.slice py ny cy] 36)):=Cf;have hXn:=Ae.made v2 (.slice py ny cy);obtain⟨u2,hu2⟩:∃W,v2.alloc (.cells #[.slice py ny cy] 36)=W:=⟨_,rfl⟩
 rw[hu2]at hbn hXn
 obtain⟨d2,hd2⟩:∃b,v2.heap.size=b:=⟨_,rfl⟩
 rw[hd2]at hXn
 have hbn2:=Af hb hbn;have HXA_:=HXA.out.below hbn2 HXA.out.lt;have HFA_:=HFA.out.below hbn2;have HXB_:=HXB.out.below hbn2 HXB.out.lt;have HFB_:=HFB.out.below hbn2;have HXC_:=HXC.out.below hbn2 HXC.out.lt;have HFC_:=HFC.out.below hbn2;have HXP_:=HXP.out.below hbn2 HXP.out.lt;have HFP_:=HFP.out.below hbn2;have HG_:=HG.out.below hbn2;have HB_:=Af HB.out hbn2;have HXQ:=Aa hXn;have HFQ:=Aa ((Fit.of h l).below hbn);clear h l hb hbn hbn2 hXn HG HB HXA HFA HXB HFB HXC HFC HXP HFP cA cB cC;have HXA:=Aa HXA_;have HFA:=Aa HFA_;have HXB:=Aa HXB_;have HFB:=Aa HFB_;have HXC:=Aa HXC_;have HFC:=Aa HFC_;have HXP:=Aa HXP_;have HFP:=Aa HFP_;have HG:=Aa HG_;have HB:=Aa HB_;clear HG_ HB_ HXA_ HFA_ HXB_ HFB_ HXC_ HFC_ HXP_ HFP_;have cA:=HXA.out.cell;have cB:=HXB.out.cell;have cC:=HXC.out.cell
 go_wp2_with fail
 clear hu2 hd2;refine(Jr HG.out HFC.out (by decide) HCl.out HKC.out HYC.out).mono ?_;rintro en v3 ⟨_,rfl,⟨pr,nr,cr,rfl,h,l⟩,hb⟩;have hbn:Below v3.heap.size v3 (v3.alloc (.cells #[.slice pr nr cr] 36)):=Cf;have hXn:=Ae.made v3 (.slice pr nr cr);obtain⟨u3,hu3⟩:∃W,v3.alloc (.cells #[.slice pr nr cr] 36)=W:=⟨_,rfl⟩
 rw[hu3]at hbn hXn
 obtain⟨d3,hd3⟩:∃b,v3.heap.size=b:=⟨_,rfl⟩
 rw[hd3]at hXn
 have hbn2:=Af hb hbn;have HXA_:=HXA.out.below hbn2 HXA.out.lt;have HFA_:=HFA.out.below hbn2;have HXB_:=HXB.out.below hbn2 HXB.out.lt;have HFB_:=HFB.out.below hbn2;have HXC_:=HXC.out.below hbn2 HXC.out.lt;have HFC_:=HFC.out.below hbn2;have HXP_:=HXP.out.below hbn2 HXP.out.lt;have HFP_:=HFP.out.below hbn2;have HXQ_:=HXQ.out.below hbn2 HXQ.out.lt;have HFQ_:=HFQ.out.below hbn2;have HG_:=HG.out.below hbn2;have HB_:=Af HB.out hbn2;have HXR:=Aa hXn;have HFR:=Aa ((Fit.of h l).below hbn);clear h l hb hbn hbn2 hXn HG HB HXA HFA HXB HFB HXC HFC HXP HFP HXQ HFQ cA cB cC;have HXA:=Aa HXA_;have HFA:=Aa HFA_;have HXB:=Aa HXB_;have HFB:=Aa HFB_;have HXC:=Aa HXC_;have HFC:=Aa HFC_;have HXP:=Aa HXP_;have HFP:=Aa HFP_;have HXQ:=Aa HXQ_;have HFQ:=Aa HFQ_;have HG:=Aa HG_;have HB:=Aa HB_;clear HG_ HB_ HXA_ HFA_ HXB_ HFB_ HXC_ HFC_ HXP_ HFP_ HXQ_ HFQ_;have cA:=HXA.out.cell;have cB:=HXB.out.cell;have cC:=HXC.out.cell
 by_cases hzA:A=0
 .obtain rfl:KA=1:=by rw[HKA.out,if_pos hzA]
  have HZA:=Aa hzA;clear hzA HKA
  by_cases hzB:B=0
  .obtain rfl:KB=1:=by rw[HKB.out,if_pos hzB]
   have HZB:=Aa hzB;clear hzB HKB
   by_cases hzC:C=0
   .obtain rfl:KC=1:=by rw[HKC.out,if_pos hzC]
    have HZC:=Aa hzC;clear hzC HKC
    go_wp2_with fail
    refine(Ar HFA.out (decide_eq_true HZA.out)).mono ?_;rintro en wz0 ⟨_,rfl,rfl,hb⟩;have HXA_:=HXA.out.below hb HXA.out.lt;have HFA_:=HFA.out.below hb;have HXB_:=HXB.out.below hb HXB.out.lt;have HFB_:=HFB.out.below hb;have HXC_:=HXC.out.below hb HXC.out.lt;have HFC_:=HFC.out.below hb;have HB_:=Af HB.out hb;clear hb HB HXA HFA HXB HFB HXC HFC cA cB cC;have cA:=HXA_.cell;have HXA:=Aa HXA_;have HFA:=Aa HFA_;have cB:=HXB_.cell;have HXB:=Aa HXB_;have HFB:=Aa HFB_;have cC:=HXC_.cell;have HXC:=Aa HXC_;have HFC:=Aa HFC_;have HB:=Aa HB_;clear HB_ HXA_ HFA_ HXB_ HFB_ HXC_ HFC_
    go_wp2_with fail
    refine(Ar HFA.out (decide_eq_true HZA.out)).mono ?_;rintro en wz1 ⟨_,rfl,rfl,hb⟩;have HXA_:=HXA.out.below hb HXA.out.lt;have HFA_:=HFA.out.below hb;have HXB_:=HXB.out.below hb HXB.out.lt;have HFB_:=HFB.out.below hb;have HXC_:=HXC.out.below hb HXC.out.lt;have HFC_:=HFC.out.below hb;have HB_:=Af HB.out hb;clear hb HB HXA HFA HXB HFB HXC HFC cA cB cC;have cA:=HXA_.cell;have HXA:=Aa HXA_;have HFA:=Aa HFA_;have cB:=HXB_.cell;have HXB:=Aa HXB_;have HFB:=Aa HFB_;have cC:=HXC_.cell;have HXC:=Aa HXC_;have HFC:=Aa HFC_;have HB:=Aa HB_;clear HB_ HXA_ HFA_ HXB_ HFB_ HXC_ HFC_
    go_wp2_with fail
    refine(Ar HFB.out (decide_eq_true HZB.out)).mono ?_;rintro en wz2 ⟨_,rfl,rfl,hb⟩;have HXA_:=HXA.out.below hb HXA.out.lt;have HFA_:=HFA.out.below hb;have HXB_:=HXB.out.below hb HXB.out.lt;have HFB_:=HFB.out.below hb;have HXC_:=HXC.out.below hb HXC.out.lt;have HFC_:=HFC.out.below hb;have HB_:=Af HB.out hb;clear hb HB HXA HFA HXB HFB HXC HFC cA cB cC;have cA:=HXA_.cell;have HXA:=Aa HXA_;have HFA:=Aa HFA_;have cB:=HXB_.cell;have HXB:=Aa HXB_;have HFB:=Aa HFB_;have cC:=HXC_.cell;have HXC:=Aa HXC_;have HFC:=Aa HFC_;have HB:=Aa HB_;clear HB_ HXA_ HFA_ HXB_ HFB_ HXC_ HFC_
    go_wp2_with fail
    refine(Ar HFC.out (decide_eq_true HZC.out)).mono ?_;rintro en wz3 ⟨_,rfl,rfl,hb⟩;have HXA_:=HXA.out.below hb HXA.out.lt;have HFA_:=HFA.out.below hb;have HXB_:=HXB.out.below hb HXB.out.lt;have HFB_:=HFB.out.below hb;have HXC_:=HXC.out.below hb HXC.out.lt;have HFC_:=HFC.out.below hb;have HB_:=Af HB.out hb;clear hb HB HXA HFA HXB HFB HXC HFC cA cB cC;have cA:=HXA_.cell;have HXA:=Aa HXA_;have HFA:=Aa HFA_;have cB:=HXB_.cell;have HXB:=Aa HXB_;have HFB:=Aa HFB_;have cC:=HXC_.cell;have HXC:=Aa HXC_;have HFC:=Aa HFC_;have HB:=Aa HB_;clear HB_ HXA_ HFA_ HXB_ HFB_ HXC_ HFC_;go_wp2;go_ret;exact⟨rfl,HB.out⟩
   .obtain rfl:KC=0:=by rw[HKC.out,if_neg hzC]
    have HZC:=Aa hzC;clear hzC HKC
    go_wp2_with fail
    refine(Ar HFA.out (decide_eq_true HZA.out)).mono ?_;rintro en wz0 ⟨_,rfl,rfl,hb⟩;have HXA_:=HXA.out.below hb HXA.out.lt;have HFA_:=HFA.out.below hb;have HXB_:=HXB.out.below hb HXB.out.lt;have HFB_:=HFB.out.below hb;have HXC_:=HXC.out.below hb HXC.out.lt;have HFC_:=HFC.out.below hb;have HB_:=Af HB.out hb;clear hb HB HXA HFA HXB HFB HXC HFC cA cB cC;have cA:=HXA_.cell;have HXA:=Aa HXA_;have HFA:=Aa HFA_;have cB:=HXB_.cell;have HXB:=Aa HXB_;have HFB:=Aa HFB_;have cC:=HXC_.cell;have HXC:=Aa HXC_;have HFC:=Aa HFC_;have HB:=Aa HB_;clear HB_ HXA_ HFA_ HXB_ HFB_ HXC_ HFC_
    go_wp2_with fail
    refine(Ar HFA.out (decide_eq_true HZA.out)).mono ?_;rintro en wz1 ⟨_,rfl,rfl,hb⟩;have HXA_:=HXA.out.below hb HXA.out.lt;have HFA_:=HFA.out.below hb;have HXB_:=HXB.out.below hb HXB.out.lt;have HFB_:=HFB.out.below hb;have HXC_:=HXC.out.below hb HXC.out.lt;have HFC_:=HFC.out.below hb;have HB_:=Af HB.out hb;clear hb HB HXA HFA HXB HFB HXC HFC cA cB cC;have cA:=HXA_.cell;have HXA:=Aa HXA_;have HFA:=Aa HFA_;have cB:=HXB_.cell;have HXB:=Aa HXB_;have HFB:=Aa HFB_;have cC:=HXC_.cell;have HXC:=Aa HXC_;have HFC:=Aa HFC_;have HB:=Aa HB_;clear HB_ HXA_ HFA_ HXB_ HFB_ HXC_ HFC_
    go_wp2_with fail
    refine(Ar HFB.out (decide_eq_true HZB.out)).mono ?_;rintro en wz2 ⟨_,rfl,rfl,hb⟩;have HXA_:=HXA.out.below hb HXA.out.lt;have HFA_:=HFA.out.below hb;have HXB_:=HXB.out.below hb HXB.out.lt;have HFB_:=HFB.out.below hb;have HXC_:=HXC.out.below hb HXC.out.lt;have HFC_:=HFC.out.below hb;have HB_:=Af HB.out hb;clear hb HB HXA HFA HXB HFB HXC HFC cA cB cC;have cA:=HXA_.cell;have HXA:=Aa HXA_;have HFA:=Aa HFA_;have cB:=HXB_.cell;have HXB:=Aa HXB_;have HFB:=Aa HFB_;have cC:=HXC_.cell;have HXC:=Aa HXC_;have HFC:=Aa HFC_;have HB:=Aa HB_;clear HB_ HXA_ HFA_ HXB_ HFB_ HXC_ HFC_
    go_wp2_with fail
    refine(Ar HFC.out (decide_eq_false HZC.out)).mono ?_;rintro en wz3 ⟨_,rfl,rfl,hb⟩;have HXA_:=HXA.out.below hb HXA.out.lt;have HFA_:=HFA.out.below hb;have HXB_:=HXB.out.below hb HXB.out.lt;have HFB_:=HFB.out.below hb;have HXC_:=HXC.out.below hb HXC.out.lt;have HFC_:=HFC.out.below hb;have HB_:=Af HB.out hb;clear hb HB HXA HFA HXB HFB HXC HFC cA cB cC;have cA:=HXA_.cell;have HXA:=Aa HXA_;have HFA:=Aa HFA_;have cB:=HXB_.cell;have HXB:=Aa HXB_;have HFB:=Aa HFB_;have cC:=HXC_.cell;have HXC:=Aa HXC_;have HFC:=Aa HFC_;have HB:=Aa HB_;clear HB_ HXA_ HFA_ HXB_ HFB_ HXC_ HFC_;go_wp2;go_ret;exact⟨rfl,HB.out⟩
  .obtain rfl:KB=0:=by rw[HKB.out,if_neg hzB]
   have HZB:=Aa hzB;clear hzB HKB
   by_cases hzC:C=0
   .obtain rfl:KC=1:=by rw[HKC.out,if_pos hzC]
    have HZC:=Aa hzC;clear hzC HKC
    go_wp2_with fail
    refine(Ar HFA.out (decide_eq_true HZA.out)).mono ?_;rintro en wz0 ⟨_,rfl,rfl,hb⟩;have HXA_:=HXA.out.below hb HXA.out.lt;have HFA_:=HFA.out.below hb;have HXB_:=HXB.out.below hb HXB.out.lt;have HFB_:=HFB.out.below hb;have HXC_:=HXC.out.below hb HXC.out.lt;have HFC_:=HFC.out.below hb;have HB_:=Af HB.out hb;clear hb HB HXA HFA HXB HFB HXC HFC cA cB cC;have cA:=HXA_.cell;have HXA:=Aa HXA_;have HFA:=Aa HFA_;have cB:=HXB_.cell;have HXB:=Aa HXB_;have HFB:=Aa HFB_;have cC:=HXC_.cell;have HXC:=Aa HXC_;have HFC:=Aa HFC_;have HB:=Aa HB_;clear HB_ HXA_ HFA_ HXB_ HFB_ HXC_ HFC_
    go_wp2_with fail
    refine(Ar HFA.out (decide_eq_true HZA.out)).mono ?_;rintro en wz1 ⟨_,rfl,rfl,hb⟩;have HXA_:=HXA.out.below hb HXA.out.lt;have HFA_:=HFA.out.below hb;have HXB_:=HXB.out.below hb HXB.out.lt;have HFB_:=HFB.out.below hb;have HXC_:=HXC.out.below hb HXC.out.lt;have HFC_:=HFC.out.below hb;have HB_:=Af HB.out hb;clear hb HB HXA HFA HXB HFB HXC HFC cA cB cC;have cA:=HXA_.cell;have HXA:=Aa HXA_;have HFA:=Aa HFA_;have cB:=HXB_.cell;have HXB:=Aa HXB_;have HFB:=Aa HFB_;have cC:=HXC_.cell;have HXC:=Aa HXC_;have HFC:=Aa HFC_;have HB:=Aa HB_;clear HB_ HXA_ HFA_ HXB_ HFB_ HXC_ HFC_
    go_wp2_with fail
    refine(Ar HFB.out (decide_eq_false HZB.out)).mono ?_;rintro en wz2 ⟨_,rfl,rfl,hb⟩;have HXA_:=HXA.out.below hb HXA.out.lt;have HFA_:=HFA.out.below hb;have HXB_:=HXB.out.below hb HXB.out.lt;have HFB_:=HFB.out.below hb;have HXC_:=HXC.out.below hb HXC.out.lt;have HFC_:=HFC.out.below hb;have HB_:=Af HB.out hb;clear hb HB HXA HFA HXB HFB HXC HFC cA cB cC;have cA:=HXA_.cell;have HXA:=Aa HXA_;have HFA:=Aa HFA_;have cB:=HXB_.cell;have HXB:=Aa HXB_;have HFB:=Aa HFB_;have cC:=HXC_.cell;have HXC:=Aa HXC_;have HFC:=Aa HFC_;have HB:=Aa HB_;clear HB_ HXA_ HFA_ HXB_ HFB_ HXC_ HFC_
    go_wp2_with fail
    refine(Ar HFC.out (decide_eq_true HZC.out)).mono ?_;rintro en wz3 ⟨_,rfl,rfl,hb⟩;have HXA_:=HXA.out.below hb HXA.out.lt;have HFA_:=HFA.out.below hb;have HXB_:=HXB.out.below hb HXB.out.lt;have HFB_:=HFB.out.below hb;have HXC_:=HXC.out.below hb HXC.out.lt;have HFC_:=HFC.out.below hb;have HB_:=Af HB.out hb;clear hb HB HXA HFA HXB HFB HXC HFC cA cB cC;have cA:=HXA_.cell;have HXA:=Aa HXA_;have HFA:=Aa HFA_;have cB:=HXB_.cell;have HXB:=Aa HXB_;have HFB:=Aa HFB_;have cC:=HXC_.cell;have HXC:=Aa HXC_;have HFC:=Aa HFC_;have HB:=Aa HB_;clear HB_ HXA_ HFA_ HXB_ HFB_ HXC_ HFC_;go_wp2;go_ret;exact⟨rfl,HB.out⟩
   .obtain rfl:KC=0:=by rw[HKC.out,if_neg hzC]
    have HZC:=Aa hzC;clear hzC HKC
    go_wp2_with fail
    refine(Ar HFA.out (decide_eq_true HZA.out)).mono ?_;rintro en wz0 ⟨_,rfl,rfl,hb⟩;have HXA_:=HXA.out.below hb HXA.out.lt;have HFA_:=HFA.out.below hb;have HXB_:=HXB.out.below hb HXB.out.lt;have HFB_:=HFB.out.below hb;have HXC_:=HXC.out.below hb HXC.out.lt;have HFC_:=HFC.out.below hb;have HB_:=Af HB.out hb;clear hb HB HXA HFA HXB HFB HXC HFC cA cB cC;have cA:=HXA_.cell;have HXA:=Aa HXA_;have HFA:=Aa HFA_;have cB:=HXB_.cell;have HXB:=Aa HXB_;have HFB:=Aa HFB_;have cC:=HXC_.cell;have HXC:=Aa HXC_;have HFC:=Aa HFC_;have HB:=Aa HB_;clear HB_ HXA_ HFA_ HXB_ HFB_ HXC_ HFC_
    go_wp2_with fail
    refine(Ar HFA.out (decide_eq_true HZA.out)).mono ?_;rintro en wz1 ⟨_,rfl,rfl,hb⟩;have HXA_:=HXA.out.below hb HXA.out.lt;have HFA_:=HFA.out.below hb;have HXB_:=HXB.out.below hb HXB.out.lt;have HFB_:=HFB.out.below hb;have HXC_:=HXC.out.below hb HXC.out.lt;have HFC_:=HFC.out.below hb;have HB_:=Af HB.out hb;clear hb HB HXA HFA HXB HFB HXC HFC cA cB cC;have cA:=HXA_.cell;have HXA:=Aa HXA_;have HFA:=Aa HFA_;have cB:=HXB_.cell;have HXB:=Aa HXB_;have HFB:=Aa HFB_;have cC:=HXC_.cell;have HXC:=Aa HXC_;have HFC:=Aa HFC_;have HB:=Aa HB_;clear HB_ HXA_ HFA_ HXB_ HFB_ HXC_ HFC_
    go_wp2_with fail
    refine(Ar HFB.out (decide_eq_false HZB.out)).mono ?_;rintro en wz2 ⟨_,rfl,rfl,hb⟩;have HXA_:=HXA.out.below hb HXA.out.lt;have HFA_:=HFA.out.below hb;have HXB_:=HXB.out.below hb HXB.out.lt;have HFB_:=HFB.out.below hb;have HXC_:=HXC.out.below hb HXC.out.lt;have HFC_:=HFC.out.below hb;have HB_:=Af HB.out hb;clear hb HB HXA HFA HXB HFB HXC HFC cA cB cC;have cA:=HXA_.cell;have HXA:=Aa HXA_;have HFA:=Aa HFA_;have cB:=HXB_.cell;have HXB:=Aa HXB_;have HFB:=Aa HFB_;have cC:=HXC_.cell;have HXC:=Aa HXC_;have HFC:=Aa HFC_;have HB:=Aa HB_;clear HB_ HXA_ HFA_ HXB_ HFB_ HXC_ HFC_
    go_wp2_with fail
    refine(Ar HFC.out (decide_eq_false HZC.out)).mono ?_;rintro en wz3 ⟨_,rfl,rfl,hb⟩;have HXA_:=HXA.out.below hb HXA.out.lt;have HFA_:=HFA.out.below hb;have HXB_:=HXB.out.below hb HXB.out.lt;have HFB_:=HFB.out.below hb;have HXC_:=HXC.out.below hb HXC.out.lt;have HFC_:=HFC.out.below hb;have HB_:=Af HB.out hb;clear hb HB HXA HFA HXB HFB HXC HFC cA cB cC;have cA:=HXA_.cell;have HXA:=Aa HXA_;have HFA:=Aa HFA_;have cB:=HXB_.cell;have HXB:=Aa HXB_;have HFB:=Aa HFB_;have cC:=HXC_.cell;have HXC:=Aa HXC_;have HFC:=Aa HFC_;have HB:=Aa HB_;clear HB_ HXA_ HFA_ HXB_ HFB_ HXC_ HFC_;go_wp2;go_ret;exact⟨rfl,HB.out⟩
 .obtain rfl:KA=0:=by rw[HKA.out,if_neg hzA]
  have HZA:=Aa hzA;clear hzA HKA
  by_cases hzB:B=0
  .obtain rfl:KB=1:=by rw[HKB.out,if_pos hzB]
   have HZB:=Aa hzB;clear hzB HKB
   by_cases hzC:C=0
   .obtain rfl:KC=1:=by rw[HKC.out,if_pos hzC]
    have HZC:=Aa hzC;clear hzC HKC
    go_wp2_with fail
    refine(Ar HFA.out (decide_eq_false HZA.out)).mono ?_;rintro en wz0 ⟨_,rfl,rfl,hb⟩;have HXA_:=HXA.out.below hb HXA.out.lt;have HFA_:=HFA.out.below hb;have HXB_:=HXB.out.below hb HXB.out.lt;have HFB_:=HFB.out.below hb;have HXC_:=HXC.out.below hb HXC.out.lt;have HFC_:=HFC.out.below hb;have HB_:=Af HB.out hb;clear hb HB HXA HFA HXB HFB HXC HFC cA cB cC;have cA:=HXA_.cell;have HXA:=Aa HXA_;have HFA:=Aa HFA_;have cB:=HXB_.cell;have HXB:=Aa HXB_;have HFB:=Aa HFB_;have cC:=HXC_.cell;have HXC:=Aa HXC_;have HFC:=Aa HFC_;have HB:=Aa HB_;clear HB_ HXA_ HFA_ HXB_ HFB_ HXC_ HFC_
    go_wp2_with fail
    refine(Ar HFB.out (decide_eq_true HZB.out)).mono ?_;rintro en wz1 ⟨_,rfl,rfl,hb⟩;have HXA_:=HXA.out.below hb HXA.out.lt;have HFA_:=HFA.out.below hb;have HXB_:=HXB.out.below hb HXB.out.lt;have HFB_:=HFB.out.below hb;have HXC_:=HXC.out.below hb HXC.out.lt;have HFC_:=HFC.out.below hb;have HB_:=Af HB.out hb;clear hb HB HXA HFA HXB HFB HXC HFC cA cB cC;have cA:=HXA_.cell;have HXA:=Aa HXA_;have HFA:=Aa HFA_;have cB:=HXB_.cell;have HXB:=Aa HXB_;have HFB:=Aa HFB_;have cC:=HXC_.cell;have HXC:=Aa HXC_;have HFC:=Aa HFC_;have HB:=Aa HB_;clear HB_ HXA_ HFA_ HXB_ HFB_ HXC_ HFC_
    go_wp2_with fail
    refine(Ar HFA.out (decide_eq_false HZA.out)).mono ?_;rintro en wz2 ⟨_,rfl,rfl,hb⟩;have HXA_:=HXA.out.below hb HXA.out.lt;have HFA_:=HFA.out.below hb;have HXB_:=HXB.out.below hb HXB.out.lt;have HFB_:=HFB.out.below hb;have HXC_:=HXC.out.below hb HXC.out.lt;have HFC_:=HFC.out.below hb;have HB_:=Af HB.out hb;clear hb HB HXA HFA HXB HFB HXC HFC cA cB cC;have cA:=HXA_.cell;have HXA:=Aa HXA_;have HFA:=Aa HFA_;have cB:=HXB_.cell;have HXB:=Aa HXB_;have HFB:=Aa HFB_;have cC:=HXC_.cell;have HXC:=Aa HXC_;have HFC:=Aa HFC_;have HB:=Aa HB_;clear HB_ HXA_ HFA_ HXB_ HFB_ HXC_ HFC_
    go_wp2_with fail
    refine(Ar HFB.out (decide_eq_true HZB.out)).mono ?_;rintro en wz3 ⟨_,rfl,rfl,hb⟩;have HXA_:=HXA.out.below hb HXA.out.lt;have HFA_:=HFA.out.below hb;have HXB_:=HXB.out.below hb HXB.out.lt;have HFB_:=HFB.out.below hb;have HXC_:=HXC.out.below hb HXC.out.lt;have HFC_:=HFC.out.below hb;have HB_:=Af HB.out hb;clear hb HB HXA HFA HXB HFB HXC HFC cA cB cC;have cA:=HXA_.cell;have HXA:=Aa HXA_;have HFA:=Aa HFA_;have cB:=HXB_.cell;have HXB:=Aa HXB_;have HFB:=Aa HFB_;have cC:=HXC_.cell;have HXC:=Aa HXC_;have HFC:=Aa HFC_;have HB:=Aa HB_;clear HB_ HXA_ HFA_ HXB_ HFB_ HXC_ HFC_
    go_wp2_with fail
    refine(Ar HFC.out (decide_eq_true HZC.out)).mono ?_;rintro en wz4 ⟨_,rfl,rfl,hb⟩;have HXA_:=HXA.out.below hb HXA.out.lt;have HFA_:=HFA.out.below hb;have HXB_:=HXB.out.below hb HXB.out.lt;have HFB_:=HFB.out.below hb;have HXC_:=HXC.out.below hb HXC.out.lt;have HFC_:=HFC.out.below hb;have HB_:=Af HB.out hb;clear hb HB HXA HFA HXB HFB HXC HFC cA cB cC;have cA:=HXA_.cell;have HXA:=Aa HXA_;have HFA:=Aa HFA_;have cB:=HXB_.cell;have HXB:=Aa HXB_;have HFB:=Aa HFB_;have cC:=HXC_.cell;have HXC:=Aa HXC_;have HFC:=Aa HFC_;have HB:=Aa HB_;clear HB_ HXA_ HFA_ HXB_ HFB_ HXC_ HFC_;go_wp2;go_ret;exact⟨rfl,HB.out⟩
   .obtain rfl:KC=0:=by rw[HKC.out,if_neg hzC]
    have HZC:=Aa hzC;clear hzC HKC
    go_wp2_with fail
    refine(Ar HFA.out (decide_eq_false HZA.out)).mono ?_;rintro en wz0 ⟨_,rfl,rfl,hb⟩;have HXA_:=HXA.out.below hb HXA.out.lt;have HFA_:=HFA.out.below hb;have HXB_:=HXB.out.below hb HXB.out.lt;have HFB_:=HFB.out.below hb;have HXC_:=HXC.out.below hb HXC.out.lt;have HFC_:=HFC.out.below hb;have HB_:=Af HB.out hb;clear hb HB HXA HFA HXB HFB HXC HFC cA cB cC;have cA:=HXA_.cell;have HXA:=Aa HXA_;have HFA:=Aa HFA_;have cB:=HXB_.cell;have HXB:=Aa HXB_;have HFB:=Aa HFB_;have cC:=HXC_.cell;have HXC:=Aa HXC_;have HFC:=Aa HFC_;have HB:=Aa HB_;clear HB_ HXA_ HFA_ HXB_ HFB_ HXC_ HFC_
    go_wp2_with fail
    refine(Ar HFB.out (decide_eq_true HZB.out)).mono ?_;rintro en wz1 ⟨_,rfl,rfl,hb⟩;have HXA_:=HXA.out.below hb HXA.out.lt;have HFA_:=HFA.out.below hb;have HXB_:=HXB.out.below hb HXB.out.lt;have HFB_:=HFB.out.below hb;have HXC_:=HXC.out.below hb HXC.out.lt;have HFC_:=HFC.out.below hb;have HB_:=Af HB.out hb;clear hb HB HXA HFA HXB HFB HXC HFC cA cB cC;have cA:=HXA_.cell;have HXA:=Aa HXA_;have HFA:=Aa HFA_;have cB:=HXB_.cell;have HXB:=Aa HXB_;have HFB:=Aa HFB_;have cC:=HXC_.cell;have HXC:=Aa HXC_;have HFC:=Aa HFC_;have HB:=Aa HB_;clear HB_ HXA_ HFA_ HXB_ HFB_ HXC_ HFC_
    go_wp2_with fail
    refine(Ar HFA.out (decide_eq_false HZA.out)).mono ?_;rintro en wz2 ⟨_,rfl,rfl,hb⟩;have HXA_:=HXA.out.below hb HXA.out.lt;have HFA_:=HFA.out.below hb;have HXB_:=HXB.out.below hb HXB.out.lt;have HFB_:=HFB.out.below hb;have HXC_:=HXC.out.below hb HXC.out.lt;have HFC_:=HFC.out.below hb;have HB_:=Af HB.out hb;clear hb HB HXA HFA HXB HFB HXC HFC cA cB cC;have cA:=HXA_.cell;have HXA:=Aa HXA_;have HFA:=Aa HFA_;have cB:=HXB_.cell;have HXB:=Aa HXB_;have HFB:=Aa HFB_;have cC:=HXC_.cell;have HXC:=Aa HXC_;have HFC:=Aa HFC_;have HB:=Aa HB_;clear HB_ HXA_ HFA_ HXB_ HFB_ HXC_ HFC_
    go_wp2_with fail
    refine(Ar HFB.out (decide_eq_true HZB.out)).mono ?_;rintro en wz3 ⟨_,rfl,rfl,hb⟩;have HXA_:=HXA.out.below hb HXA.out.lt;have HFA_:=HFA.out.below hb;have HXB_:=HXB.out.below hb HXB.out.lt;have HFB_:=HFB.out.below hb;have HXC_:=HXC.out.below hb HXC.out.lt;have HFC_:=HFC.out.below hb;have HB_:=Af HB.out hb;clear hb HB HXA HFA HXB HFB HXC HFC cA cB cC;have cA:=HXA_.cell;have HXA:=Aa HXA_;have HFA:=Aa HFA_;have cB:=HXB_.cell;have HXB:=Aa HXB_;have HFB:=Aa HFB_;have cC:=HXC_.cell;have HXC:=Aa HXC_;have HFC:=Aa HFC_;have HB:=Aa HB_;clear HB_ HXA_ HFA_ HXB_ HFB_ HXC_ HFC_
    go_wp2_with fail
    refine(Ar HFC.out (decide_eq_false HZC.out)).mono ?_;rintro en wz4 ⟨_,rfl,rfl,hb⟩;have HXA_:=HXA.out.below hb HXA.out.lt;have HFA_:=HFA.out.below hb;have HXB_:=HXB.out.below hb HXB.out.lt;have HFB_:=HFB.out.below hb;have HXC_:=HXC.out.below hb HXC.out.lt;have HFC_:=HFC.out.below hb;have HB_:=Af HB.out hb;clear hb HB HXA HFA HXB HFB HXC HFC cA cB cC;have cA:=HXA_.cell;have HXA:=Aa HXA_;have HFA:=Aa HFA_;have cB:=HXB_.cell;have HXB:=Aa HXB_;have HFB:=Aa HFB_;have cC:=HXC_.cell;have HXC:=Aa HXC_;have HFC:=Aa HFC_;have HB:=Aa HB_;clear HB_ HXA_ HFA_ HXB_ HFB_ HXC_ HFC_;go_wp2;go_ret;exact⟨rfl,HB.out⟩
  .obtain rfl:KB=0:=by rw[HKB.out,if_neg hzB]
   have HZB:=Aa hzB;clear hzB HKB
   by_cases hzC:C=0
   .obtain rfl:KC=1:=by rw[HKC.out,if_pos hzC]
    have HZC:=Aa hzC;clear hzC HKC
    go_wp2_with fail
    refine(Ar HFA.out (decide_eq_false HZA.out)).mono ?_;rintro en wz0 ⟨_,rfl,rfl,hb⟩;have HXA_:=HXA.out.below hb HXA.out.lt;have HFA_:=HFA.out.below hb;have HXB_:=HXB.out.below hb HXB.out.lt;have HFB_:=HFB.out.below hb;have HXC_:=HXC.out.below hb HXC.out.lt;have HFC_:=HFC.out.below hb;have HB_:=Af HB.out hb;clear hb HB HXA HFA HXB HFB HXC HFC cA cB cC;have cA:=HXA_.cell;have HXA:=Aa HXA_;have HFA:=Aa HFA_;have cB:=HXB_.cell;have HXB:=Aa HXB_;have HFB:=Aa HFB_;have cC:=HXC_.cell;have HXC:=Aa HXC_;have HFC:=Aa HFC_;have HB:=Aa HB_;clear HB_ HXA_ HFA_ HXB_ HFB_ HXC_ HFC_
    go_wp2_with fail
    refine(Ar HFB.out (decide_eq_false HZB.out)).mono ?_;rintro en wz1 ⟨_,rfl,rfl,hb⟩;have HXA_:=HXA.out.below hb HXA.out.lt;have HFA_:=HFA.out.below hb;have HXB_:=HXB.out.below hb HXB.out.lt;have HFB_:=HFB.out.below hb;have HXC_:=HXC.out.below hb HXC.out.lt;have HFC_:=HFC.out.below hb;have HB_:=Af HB.out hb;clear hb HB HXA HFA HXB HFB HXC HFC cA cB cC;have cA:=HXA_.cell;have HXA:=Aa HXA_;have HFA:=Aa HFA_;have cB:=HXB_.cell;have HXB:=Aa HXB_;have HFB:=Aa HFB_;have cC:=HXC_.cell;have HXC:=Aa HXC_;have HFC:=Aa HFC_;have HB:=Aa HB_;clear HB_ HXA_ HFA_ HXB_ HFB_ HXC_ HFC_
    go_wp2_with fail
    refine(Ar HFC.out (decide_eq_true HZC.out)).mono ?_;rintro en wz2 ⟨_,rfl,rfl,hb⟩;have HXA_:=HXA.out.below hb HXA.out.lt;have HFA_:=HFA.out.below hb;have HXB_:=HXB.out.below hb HXB.out.lt;have HFB_:=HFB.out.below hb;have HXC_:=HXC.out.below hb HXC.out.lt;have HFC_:=HFC.out.below hb;have HB_:=Af HB.out hb;clear hb HB HXA HFA HXB HFB HXC HFC cA cB cC;have cA:=HXA_.cell;have HXA:=Aa HXA_;have HFA:=Aa HFA_;have cB:=HXB_.cell;have HXB:=Aa HXB_;have HFB:=Aa HFB_;have cC:=HXC_.cell;have HXC:=Aa HXC_;have HFC:=Aa HFC_;have HB:=Aa HB_;clear HB_ HXA_ HFA_ HXB_ HFB_ HXC_ HFC_
    go_wp2_with fail
    refine(Ar HFA.out (decide_eq_false HZA.out)).mono ?_;rintro en wz3 ⟨_,rfl,rfl,hb⟩;have HXA_:=HXA.out.below hb HXA.out.lt;have HFA_:=HFA.out.below hb;have HXB_:=HXB.out.below hb HXB.out.lt;have HFB_:=HFB.out.below hb;have HXC_:=HXC.out.below hb HXC.out.lt;have HFC_:=HFC.out.below hb;have HB_:=Af HB.out hb;clear hb HB HXA HFA HXB HFB HXC HFC cA cB cC;have cA:=HXA_.cell;have HXA:=Aa HXA_;have HFA:=Aa HFA_;have cB:=HXB_.cell;have HXB:=Aa HXB_;have HFB:=Aa HFB_;have cC:=HXC_.cell;have HXC:=Aa HXC_;have HFC:=Aa HFC_;have HB:=Aa HB_;clear HB_ HXA_ HFA_ HXB_ HFB_ HXC_ HFC_
    go_wp2_with fail
    refine(Ar HFB.out (decide_eq_false HZB.out)).mono ?_;rintro en wz4 ⟨_,rfl,rfl,hb⟩;have HXA_:=HXA.out.below hb HXA.out.lt;have HFA_:=HFA.out.below hb;have HXB_:=HXB.out.below hb HXB.out.lt;have HFB_:=HFB.out.below hb;have HXC_:=HXC.out.below hb HXC.out.lt;have HFC_:=HFC.out.below hb;have HB_:=Af HB.out hb;clear hb HB HXA HFA HXB HFB HXC HFC cA cB cC;have cA:=HXA_.cell;have HXA:=Aa HXA_;have HFA:=Aa HFA_;have cB:=HXB_.cell;have HXB:=Aa HXB_;have HFB:=Aa HFB_;have cC:=HXC_.cell;have HXC:=Aa HXC_;have HFC:=Aa HFC_;have HB:=Aa HB_;clear HB_ HXA_ HFA_ HXB_ HFB_ HXC_ HFC_
    go_wp2_with fail
    refine(Ar HFC.out (decide_eq_true HZC.out)).mono ?_;rintro en wz5 ⟨_,rfl,rfl,hb⟩;have HXA_:=HXA.out.below hb HXA.out.lt;have HFA_:=HFA.out.below hb;have HXB_:=HXB.out.below hb HXB.out.lt;have HFB_:=HFB.out.below hb;have HXC_:=HXC.out.below hb HXC.out.lt;have HFC_:=HFC.out.below hb;have HB_:=Af HB.out hb;clear hb HB HXA HFA HXB HFB HXC HFC cA cB cC;have cA:=HXA_.cell;have HXA:=Aa HXA_;have HFA:=Aa HFA_;have cB:=HXB_.cell;have HXB:=Aa HXB_;have HFB:=Aa HFB_;have cC:=HXC_.cell;have HXC:=Aa HXC_;have HFC:=Aa HFC_;have HB:=Aa HB_;clear HB_ HXA_ HFA_ HXB_ HFB_ HXC_ HFC_;go_wp2;go_ret;exact⟨rfl,HB.out⟩
   .obtain rfl:KC=0:=by rw[HKC.out,if_neg hzC]
    have HZC:=Aa hzC;clear hzC HKC;have HPR:Ad (YA*YB%P=YC):=⟨by
     rw[HYA.out,HYB.out,HYC.out,if_neg HZA.out,if_neg HZB.out,if_neg HZC.out,<-HEC.out,<-Nat.mul_mod,<-Nat.pow_add];exact Lx (by rw[HP2.out.2.2,Nat.mod_eq_of_lt (by have:=HP2.out;omega)]) _⟩
    have HMB:Ad (decide (0<YC/\YC<P/\YC^Q%P=1)=true):=⟨decide_eq_true (by
     rw[HYC.out,if_neg HZC.out];exact Sc HP2.out.1 (by have:=HP2.out;omega) HP2.out.2.2 C)⟩
    go_wp2_with fail
    refine(Ar HFA.out (decide_eq_false HZA.out)).mono ?_;rintro en wz0 ⟨_,rfl,rfl,hb⟩;have HXA_:=HXA.out.below hb HXA.out.lt;have HFA_:=HFA.out.below hb;have HXB_:=HXB.out.below hb HXB.out.lt;have HFB_:=HFB.out.below hb;have HXC_:=HXC.out.below hb HXC.out.lt;have HFC_:=HFC.out.below hb;have HXP_:=HXP.out.below hb HXP.out.lt;have HFP_:=HFP.out.below hb;have HXQ_:=HXQ.out.below hb HXQ.out.lt;have HFQ_:=HFQ.out.below hb;have HXR_:=HXR.out.below hb HXR.out.lt;have HFR_:=HFR.out.below hb;have HB_:=Af HB.out hb;have HG_:=HG.out.below hb;clear hb HG HB HXA HFA HXB HFB HXC HFC HXP HFP HXQ HFQ HXR HFR cA cB cC;have cA:=HXA_.cell;have HXA:=Aa HXA_;have HFA:=Aa HFA_;have cB:=HXB_.cell;have HXB:=Aa HXB_;have HFB:=Aa HFB_;have cC:=HXC_.cell;have HXC:=Aa HXC_;have HFC:=Aa HFC_;have HXP:=Aa HXP_;have HFP:=Aa HFP_;have HXQ:=Aa HXQ_;have HFQ:=Aa HFQ_;have HXR:=Aa HXR_;have HFR:=Aa HFR_;have HG:=Aa HG_;have HB:=Aa HB_;clear HG_;clear HB_ HXA_ HFA_ HXB_ HFB_ HXC_ HFC_ HXP_ HFP_ HXQ_ HFQ_ HXR_ HFR_
    go_wp2_with fail
    refine(Ar HFB.out (decide_eq_false HZB.out)).mono ?_;rintro en wz1 ⟨_,rfl,rfl,hb⟩;have HXA_:=HXA.out.below hb HXA.out.lt;have HFA_:=HFA.out.below hb;have HXB_:=HXB.out.below hb HXB.out.lt;have HFB_:=HFB.out.below hb;have HXC_:=HXC.out.below hb HXC.out.lt;have HFC_:=HFC.out.below hb;have HXP_:=HXP.out.below hb HXP.out.lt;have HFP_:=HFP.out.below hb;have HXQ_:=HXQ.out.below hb HXQ.out.lt;have HFQ_:=HFQ.out.below hb;have HXR_:=HXR.out.below hb HXR.out.lt;have HFR_:=HFR.out.below hb;have HB_:=Af HB.out hb;have HG_:=HG.out.below hb;clear hb HG HB HXA HFA HXB HFB HXC HFC HXP HFP HXQ HFQ HXR HFR cA cB cC;have cA:=HXA_.cell;have HXA:=Aa HXA_;have HFA:=Aa HFA_;have cB:=HXB_.cell;have HXB:=Aa HXB_;have HFB:=Aa HFB_;have cC:=HXC_.cell;have HXC:=Aa HXC_;have HFC:=Aa HFC_;have HXP:=Aa HXP_;have HFP:=Aa HFP_;have HXQ:=Aa HXQ_;have HFQ:=Aa HFQ_;have HXR:=Aa HXR_;have HFR:=Aa HFR_;have HG:=Aa HG_;have HB:=Aa HB_;clear HG_;clear HB_ HXA_ HFA_ HXB_ HFB_ HXC_ HFC_ HXP_ HFP_ HXQ_ HFQ_ HXR_ HFR_
    go_wp2_with fail
    refine(Ar HFC.out (decide_eq_false HZC.out)).mono ?_;rintro en wz2 ⟨_,rfl,rfl,hb⟩;have HXA_:=HXA.out.below hb HXA.out.lt;have HFA_:=HFA.out.below hb;have HXB_:=HXB.out.below hb HXB.out.lt;have HFB_:=HFB.out.below hb;have HXC_:=HXC.out.below hb HXC.out.lt;have HFC_:=HFC.out.below hb;have HXP_:=HXP.out.below hb HXP.out.lt;have HFP_:=HFP.out.below hb;have HXQ_:=HXQ.out.below hb HXQ.out.lt;have HFQ_:=HFQ.out.below hb;have HXR_:=HXR.out.below hb HXR.out.lt;have HFR_:=HFR.out.below hb;have HB_:=Af HB.out hb;have HG_:=HG.out.below hb;clear hb HG HB HXA HFA HXB HFB HXC HFC HXP HFP HXQ HFQ HXR HFR cA cB cC;have cA:=HXA_.cell;have HXA:=Aa HXA_;have HFA:=Aa HFA_;have cB:=HXB_.cell;have HXB:=Aa HXB_;have HFB:=Aa HFB_;have cC:=HXC_.cell;have HXC:=Aa HXC_;have HFC:=Aa HFC_;have HXP:=Aa HXP_;have HFP:=Aa HFP_;have HXQ:=Aa HXQ_;have HFQ:=Aa HFQ_;have HXR:=Aa HXR_;have HFR:=Aa HFR_;have HG:=Aa HG_;have HB:=Aa HB_;clear HG_;clear HB_ HXA_ HFA_ HXB_ HFB_ HXC_ HFC_ HXP_ HFP_ HXQ_ HFQ_ HXR_ HFR_;clear cA cB cC;go_wp2;refine Ak (by kernel_rfl) (by kernel_rfl)
     [some (.int .i64 0),some (.bool true),some (.bool true),some (.int .i64 0),some (.bool true),some (.bool true),some (.bool true),some (.int .i64 0),some (.bool true),some (.bool true),some (.bool true),some (.pointer (some ⟨b,0,none⟩)),some (.agg #[.slice px nx cx]),some (.agg #[.slice py ny cy]),none,some (.agg #[.slice pr nr cr]),none,some (.bool true),some (.bool true),some (.bool true),some (.pointer (some ⟨b,0,none⟩)),some (.agg #[.slice pr nr cr]),none,some (.bool true),some (.bool true)]
     [false,false,false,false,false,false,false,false,false,false,false,false,false,false,true,false,true,false,false,false,false,false,true,false,false] rfl
     (fun w1 w2=>Below w1.heap.size w1 w2)
     (fun _ w'=>Below wz2.heap.size wz2 w')
     (fun i v w'=>match i with
      | 14=>Fit 33 (YC) v w'
      | 16=>v=.int .i64 0
      | 22=>v=.bool true
      | _=>True)
     ?_ (Bc _ _).drew ?_ ?_
    .intro i v w1 w2 hf hb;split at hf
     .exact hf.below hb
     .exact hf
     .exact hf
     .trivial
    .simp only[Bb,Nat.reduceAdd];refine⟨?_,?_,?_,?_,?_,?_,?_,?_,?_,?_,?_,?_,?_,?_,?_,?_,?_,?_,?_,?_,?_,?_,?_,?_,?_,trivial⟩
     all_goals intro D sp w' hD hW hdp hbx'
     case refine_13=>
      have c0:=(HXP.out.below hbx' HXP.out.lt).cell
      with_reducible refine Ac ?_ ?_
      all_goals simp[Region.wanted,yielded,execOp,Act.eval,Act.put,go_sem,c0]
     case refine_14=>
      have c0:=(HXQ.out.below hbx' HXQ.out.lt).cell
      with_reducible refine Ac ?_ ?_
      all_goals simp[Region.wanted,yielded,execOp,Act.eval,Act.put,go_sem,c0]
     case refine_15=>
      (with_reducible refine Ab (w1:=w') (f := 51) (args:=#[.pointer (some ⟨b,0,none⟩),.agg #[.slice px nx cx],.agg #[.slice py ny cy]]) ?_ ?_ ?_)
      .simp[Region.wanted,yielded,Act.put,go_sem]
      .simp[Act.eval,Act.put,go_sem]
      .refine(Oz (HG.out.below hbx') (HFP.out.below hbx') (HFQ.out.below hbx') (by decide) (by decide)).mono ?_;rintro en w9 ⟨u,rfl,hu,hb⟩;rw[HPR.out]at hu
       exact⟨u,rfl,hb,hu,Af hbx' hb⟩
     case refine_16|refine_22=>
      have c0:=(HXR.out.below hbx' HXR.out.lt).cell
      with_reducible refine Ac ?_ ?_
      all_goals simp[Region.wanted,yielded,execOp,Act.eval,Act.put,go_sem,c0]
     case refine_17=>
      have k14:Fit 33 (YC) (sp 14) w':=(hdp 14 (mq (by kernel_rfl))).2
      (with_reducible refine Ab (w1:=w') (f := 33) (args:=#[sp 14,.agg #[.slice pr nr cr]]) ?_ ?_ ?_)
      .simp[Region.wanted,yielded,Act.put,go_sem]
      .simp[Act.eval,Act.put,go_sem]
      .refine(Be k14 (HFR.out.below hbx') (by decide) (by decide) (Cb.2 rfl)).mono ?_;rintro en w9 ⟨u,rfl,rfl,hb⟩;exact⟨_,rfl,hb,rfl,Af hbx' hb⟩
     case refine_18=>
      have k16:(sp 16)=.int .i64 0:=(hdp 16 (mq (by kernel_rfl))).2
      with_reducible refine Ac ?_ ?_
      all_goals simp[Region.wanted,yielded,execOp,Act.eval,Act.put,go_sem,k16]
     case refine_23=>
      (with_reducible refine Ab (w1:=w') (f := 52) (args:=#[.pointer (some ⟨b,0,none⟩),.agg #[.slice pr nr cr]]) ?_ ?_ ?_)
      .simp[Region.wanted,yielded,Act.put,go_sem]
      .simp[Act.eval,Act.put,go_sem]
      .refine(Ic (HG.out.below hbx') (HFR.out.below hbx') (by decide)).mono ?_;rintro en w9 ⟨rfl,hb⟩;rw[HMB.out];exact⟨_,rfl,hb,rfl,Af hbx' hb⟩
     case refine_24=>
      have k22:(sp 22)=.bool true:=(hdp 22 (mq (by kernel_rfl))).2
      with_reducible refine Ac ?_ ?_
      all_goals simp[Region.wanted,yielded,execOp,Act.eval,Act.put,go_sem,k22]
     all_goals ((with_reducible refine Ac ?_ ?_);all_goals first|(simp only[Region.wanted];done)|simp[Region.wanted,yielded,execOp,Act.eval,Act.put,go_sem])
    .intro sp w9 hsp hb9;have HBf:=Aa (Af HB.out hb9);clear hsp hb9;simp only[Am,Nat.reduceAdd];generalize sp 14=y14,sp 16=y16,sp 22=y22 at *
     go_simp
     go_wp2;go_ret;exact⟨rfl,HBf.out⟩
end Go.Proofs.YthgoeiegdhphjaaGreatDoor
