/- Does a signature verify (sign.Verify)? -/
import Derived.Test.YthgoeiegdhphjaaGreatDoorSgD
import Derived.Test.YthgoeiegdhphjaaGreatDoorSgH
import Derived.Test.YthgoeiegdhphjaaGreatDoorDrwn
set_option maxRecDepth 1000000
set_option maxHeartbeats 16000000
set_option linter.all false
namespace Go.Proofs.YthgoeiegdhphjaaGreatDoor
open Go Go.RowKit Go.Proofs.YthgoeiegdhphjaaGreatDoor.Flow
theorem eF {w:World}{b P Q G H e X:Nat}{v:Value}{pm:Option Addr}{nm cm:Nat}{msg:List Nat}(hg:Ay w b P Q G H)(hT:Tabs w)(hv:Fit e X v w)(he:e<=30000)(hP:As P<=16)(hQ:As Q<=16)(hm:Bf w ⟨pm,nm,cm,msg⟩)(hk:0<X/\X<Q) :
  Calls Tryz.prog 36 #[.pointer (some ⟨b,0,none⟩),v,.slice pm nm cm] w fun en w'=>∃u,en=.returned (.tuple #[u,.int .i64 0])/\Ej 0 (Oh P Q G X msg) u w'/\Below w.heap.size w w':=by
 obtain⟨px,nx,cx,rfl,h1,h2⟩:=Aq hv;have hb0:Below w.heap.size w (w.alloc (.cells #[.slice px nx cx] 36)):=Cf;have hX0:=Ae.made w (.slice px nx cx);obtain⟨wa,hwa⟩:∃W,w.alloc (.cells #[.slice px nx cx] 36)=W:=⟨_,rfl⟩
 rw[hwa]at hb0 hX0
 have c0:=hX0.cell;have HX0:=Aa hX0;have HBL:=Aa hb0;have HX:=Aa ((Fit.of h1 h2).below hb0);have HGA:=Aa hg;have HT:=Aa hT;have HM:=Aa hm;have HPs:=Aa hP;have HQs:=Aa hQ;have HKy:=Aa hk;have HPU:=Aa (Lw (hg.below hb0) ((Fit.of h1 h2).below hb0) he hk);have HQl:=Aa hg.lims.2.2.2;have hP2:=hg.lims.1;have hQ2:=hg.lims.2.2.1;obtain⟨Y,hY⟩:∃Y,G^X%P=Y:=⟨_,rfl⟩
 obtain⟨KD,hKN⟩:∃K,Vl Q X msg=K:=⟨_,rfl⟩
 obtain⟨GK,hGK⟩:∃K,G^KD%P=K:=⟨_,rfl⟩
 obtain⟨CC,hCC⟩:∃C,Jk P Q GK Y msg=C:=⟨_,rfl⟩
 obtain⟨MM,hMM⟩:∃M,CC*X%Q=M:=⟨_,rfl⟩
 obtain⟨SS,hSS⟩:∃S,(KD+MM)%Q=S:=⟨_,rfl⟩
 obtain⟨SB,hSB⟩:∃S,Oh P Q G X msg=S:=⟨_,rfl⟩
 have HSB:Ad (Bl CC (As Q)++Bl SS (As Q)=SB):=⟨by
  rw[<-hSB];unfold Oh fR fS;rw[hKN,hGK,hY,hCC,hMM,hSS]⟩
 have HY:=Aa hY;have HKN:=Aa hKN;have HGK:=Aa hGK;have HCC:=Aa hCC;have HMM:=Aa hMM;have HSS:=Aa hSS;have HGKl:Ad (GK<P):=⟨by rw[<-hGK];exact Nat.mod_lt _ (by omega)⟩
 have HYl:Ad (Y<P):=⟨by rw[<-hY];exact Nat.mod_lt _ (by omega)⟩
 have HCl:Ad (CC<Q):=⟨by rw[<-hCC];exact Og (by omega)⟩
 have HSl:Ad (SS<Q):=⟨by rw[<-hSS];exact Nat.mod_lt _ (by omega)⟩
 rw[hSB];clear hY hKN hGK hCC hMM hSS hSB h1 h2 hg hv hT hm hP hQ hk hX0 hb0 hP2 hQ2;go_enter Tryz.func36,Tryz.ntmps36
 go_wp2_with fail
 refine HPU.out.mono ?_;rintro en w1 ⟨_,rfl,⟨py,ny,cy,rfl,hy,ly⟩,hb1⟩;rw[HY.out]at hy ly
 have hb2:Below w1.heap.size w1 (w1.alloc (.cells #[.slice py ny cy] 36)):=Cf;have hX2:=Ae.made w1 (.slice py ny cy);obtain⟨w2,hw2⟩:∃W,w1.alloc (.cells #[.slice py ny cy] 36)=W:=⟨_,rfl⟩
 rw[hw2]at hb2 hX2
 have hb02:=Af hb1 hb2;have HB2:=Aa (Af HBL.out hb02);have HX2:=Aa (HX0.out.below hb02 HX0.out.lt);have HXF2:=Aa (HX.out.below hb02);have HXY2:=Aa hX2;have HY2:=Aa ((Fit.of hy ly).below hb2);clear hy ly hb1 hb2 hb02 hX2 HX0 HX HBL hwa HPU c0;have c0:=HX2.out.cell
 go_wp2_with fail
 clear hw2;refine(cM (HGA.out.below HB2.out) (HT.out.below HB2.out HT.out.size) HXF2.out he HKy.out.2 HQs.out (HM.out.below HB2.out)).mono ?_;rintro en w3 ⟨_,rfl,⟨pk,nk,ck,rfl,hk3,lk3⟩,hb3⟩;rw[HKN.out]at hk3 lk3
 have hb4:Below w3.heap.size w3 (w3.alloc (.cells #[.slice pk nk ck] 36)):=Cf;have hX4:=Ae.made w3 (.slice pk nk ck);obtain⟨w4,hw4⟩:∃W,w3.alloc (.cells #[.slice pk nk ck] 36)=W:=⟨_,rfl⟩
 rw[hw4]at hb4 hX4
 have hb34:=Af hb3 hb4;have HB4:=Aa (Af HB2.out hb34);have HXX:=Aa (HX2.out.below hb34 HX2.out.lt);have HXF:=Aa (HXF2.out.below hb34);have HXY:=Aa (HXY2.out.below hb34 HXY2.out.lt);have HY:Ad (Fit 33 Y (.agg #[.slice py ny cy]) w4):=⟨HY2.out.below hb34⟩
 have HXK:=Aa hX4;have HK:Ad (Fit 33 KD (.agg #[.slice pk nk ck]) w4):=⟨(Fit.of hk3 lk3).below hb4⟩
 have HG:=Aa (HGA.out.below HB4.out);have HT5:=Aa (HT.out.below HB4.out HT.out.size);have HM5:=Aa (HM.out.below HB4.out);clear hk3 lk3 hb3 hb4 hb34 hX4 HX2 HXF2 HXY2 HY2 c0;go_wp2;clear hw4;refine Aj (by kernel_rfl) (by kernel_rfl)
  [some (.pointer (some ⟨b,0,none⟩)),some (.pointer (some ⟨b,0,none⟩)),some (.pointer (some ⟨b,0,none⟩)),none,some (.agg #[.slice pk nk ck]),none,some (.agg #[.slice py ny cy]),some (.slice pm nm cm),none,none,none]
  [false,false,false,true,false,true,false,false,true,true,true] rfl
  (fun wA wB=>KN (w4.heap.size) wA wB)
  (fun D sp w'=>RG (w4.heap.size) w4 [] w'/\Pn (D 9) (D 10) (sp 9) (w4.heap.size) (CC) w')
  (fun i v w'=>match i with
   | 3=>Fit 33 G v w'
   | 5=>Fit 33 (GK) v w'
   | 8=>Fit 33 (CC) v w'
   | _=>True)
  ?_ ⟨RG.start (Av _) (fun x hx=>by cases hx),Pn.start (Av _)⟩ ?_ ?_
 .intro i v wA wB hf hb;split at hf
  .exact hf.kn hb
  .exact hf.kn hb
  .exact hf.kn hb
  .trivial
 .simp only[Ax,Nat.reduceAdd];refine⟨?_,?_,?_,?_,?_,?_,?_,?_,?_,?_,?_,trivial⟩
  all_goals intro D sp w' hD hW hdp hg
  case refine_4=>
   (with_reducible refine Ab (w1:=w') (f := 42) (args:=#[.pointer (some ⟨b,0,none⟩)]) ?_ ?_ ?_)
   .simp[Region.wanted,yielded,Act.put,go_sem]
   .simp[Act.eval,Act.put,go_sem]
   .refine(Wr (HG.out.below hg.1.keep.bel)).mono ?_;rintro en w9 ⟨u,rfl,hu,hb⟩;exact⟨u,rfl,KN.of hb hg.1.base,hu,hg.1.later hb,by simpa [upd]using hg.2.later hb⟩
  case refine_5=>
   have c0:=(HXK.out.below hg.1.keep.bel HXK.out.lt).cell
   with_reducible refine Ac ?_ ?_
   all_goals simp[Region.wanted,yielded,execOp,Act.eval,Act.put,go_sem,c0]
  case refine_6=>
   have k3:Fit 33 G (sp 3) w':=(hdp 3 (mq (by kernel_rfl))).2
   (with_reducible refine Ab (w1:=w') (f := 41) (args:=#[.pointer (some ⟨b,0,none⟩),sp 3,.agg #[.slice pk nk ck]]) ?_ ?_ ?_)
   .simp[Region.wanted,yielded,Act.put,go_sem]
   .simp[Act.eval,Act.put,go_sem]
   .refine(Pa (HG.out.below hg.1.keep.bel) k3 (HK.out.below hg.1.keep.bel) (by decide) (by decide)).mono ?_;rintro en w9 ⟨u,rfl,hu,hb⟩;rw[HGK.out]at hu
    exact⟨u,rfl,KN.of hb hg.1.base,hu,hg.1.later hb,by simpa [upd]using hg.2.later hb⟩
  case refine_7=>
   have c0:=(HXY.out.below hg.1.keep.bel HXY.out.lt).cell
   with_reducible refine Ac ?_ ?_
   all_goals simp[Region.wanted,yielded,execOp,Act.eval,Act.put,go_sem,c0]
  case refine_9=>
   have k5:Fit 33 (GK) (sp 5) w':=(hdp 5 (mq (by kernel_rfl))).2
   (with_reducible refine Ab (w1:=w') (f := 93) (args:=#[.pointer (some ⟨b,0,none⟩),sp 5,.agg #[.slice py ny cy],.slice pm nm cm]) ?_ ?_ ?_)
   .simp[Region.wanted,yielded,Act.put,go_sem]
   .simp[Act.eval,Act.put,go_sem]
   .refine(Qm (HG.out.below hg.1.keep.bel) (HT5.out.below hg.1.keep.bel HT5.out.size) k5 (HY.out.below hg.1.keep.bel) (by decide) HGKl.out HYl.out HPs.out (HM5.out.below hg.1.keep.bel)).mono ?_;rintro en w9 ⟨u,rfl,hu,hb⟩;rw[HCC.out]at hu
    exact⟨u,rfl,KN.of hb hg.1.base,hu,hg.1.later hb,by simpa [upd]using hg.2.later hb⟩
  case refine_10=>
   have h9:D 10=false:=hW 10 (mq (by kernel_rfl));rw[hD,h9]at hg
   (with_reducible refine Ai (w1:=w'.alloc (.cells #[.slice none 0 0] 36)) (v:=.pointer (some ⟨w'.heap.size,0,none⟩)) ?_ ?_ ?_)
   .simp[Region.wanted,yielded,Act.put,go_sem]
   .simp[execOp,go_sem]
   .have hb:Below w'.heap.size w' (w'.alloc (.cells #[.slice none 0 0] 36)):=Cf;refine⟨KN.of hb hg.1.base,trivial,hg.1.later hb,?_⟩;have h8:=hg.2.made;simpa [upd,h9]using h8
  case refine_11=>
   have hx:∃p n c,sp 8=.agg #[.slice p n c]/\Ag w' p n c (CC)/\CC<Ao (33):=(hdp 8 (mq (by kernel_rfl))).2
   (with_reducible refine Au hx fun p hx1=>Au hx1 fun n hx2=>Au hx2 fun c hx3=>?_)
   have h1:=hx3.1;have h9:D 9=true:=(hdp 9 (mq (by kernel_rfl))).1;rw[h9]at hg
   have hp:=hg.2.put (hx3.2.1)
   (with_reducible refine Au hp fun b hy0=>Au hy0 fun q hy1=>Au hy1 fun m hy2=>Au hy2 fun k hy3=>?_)
   have h3:=hy3.1;have h6:=hy3.2.2.1.cell;have h7:=hy3.2.2.1.free
   (with_reducible refine An (w1:=w'.setCell ⟨b,0,none⟩ (.slice p n c)) ?_ ?_ ?_)
   .simp[Region.wanted,yielded,Act.put,go_sem]
   .simp[execOp,Act.eval,Act.put,go_sem,h1,h3,h6,h7]
   .refine⟨KN.store hy3.2.2.1 (Ep (Av _) hy3.2.1) _,trivial,hg.1.store_over hy3.2.2.1 (Av _) hy3.2.1 (fun x hx=>by cases hx) _,?_⟩;have h8:=hy3.2.2.2;simpa [upd,h9]using h8
  all_goals ((with_reducible refine Ac ?_ ?_);all_goals first|(simp only[Region.wanted];done)|simp[Region.wanted,yielded,execOp,Act.eval,Act.put,go_sem])
 .intro sp w5 hsp hg;obtain⟨hg1,_,hmk⟩:=hg;obtain⟨b11,e11,hb11,pc,nc,cc,hxc,hnc⟩:=hmk rfl;replace hnc:=hnc rfl;have HXC5:=Aa hxc;have HNC5:=Aa (Fit.of (e:=33) hnc (Nat.lt_trans HCl.out HQl.out));have hbel:=hg1.keep.bel;have HB5:=Aa (Af HB4.out hbel);have HXK5:=Aa (HXK.out.below hbel HXK.out.lt);have HK5:=Aa (HK.out.below hbel);have HXX5:=Aa (HXX.out.below hbel HXX.out.lt);have HXF5:=Aa (HXF.out.below hbel);clear hsp hg1 hmk hxc hnc hb11 hbel HXY HY HM5 HG HT5;simp only[Am,Nat.reduceAdd];rw[e11];clear e11;generalize sp 3=y3,sp 5=y5,sp 8=y8,sp 10=y10 at *
  go_simp
  have c0:=HXX5.out.cell;have c1:=HXC5.out.cell;have c2:=HXK5.out.cell
  go_wp2_with fail
  refine(Sv (HGA.out.below HB5.out) HK5.out HNC5.out HXF5.out (by decide) (by decide) he).mono ?_;rintro en w6 ⟨_,rfl,⟨x,y,rfl,hC,hS⟩,hb6⟩;rw[HMM.out,HSS.out]at hS
  have HCv:=Aa hC;have HSv:=Aa hS;have HB6:=Aa (Af HB5.out hb6);clear hC hS hb6 HXC5 HNC5 HXK5 HK5 HXX5 HXF5 c0 c1 c2
  go_wp2_with fail
  refine(Rn (Rf.of (HGA.out.below HB6.out)) HQs.out HCv.out HSv.out HCl.out HSl.out HQl.out).mono ?_;rintro en w7 ⟨u,rfl,hu,hb7⟩;rw[HSB.out]at hu
  have HO:Ad (Ej 0 SB u w7):=⟨hu.zero⟩
  have HBf:=Aa (Af HB6.out hb7);clear hu hb7;go_wp2
  go_ret2
  exact⟨_,rfl,HO.out,HBf.out⟩
theorem Vc {w:World}{b P Q G H Y e nm cm ns cs:Nat}{v:Value}{pm ps:Option Addr}{msg sig:List Nat}(hg:Ay w b P Q G H)(hT:Tabs w)(hv:Fit e Y v w)(he:e<=33)(hP:As P<=16)(hQ:As Q<=16)(hm:Bf w ⟨pm,nm,cm,msg⟩)(hs:Bf w ⟨ps,ns,cs,sig⟩) :
  Calls Tryz.prog 43 #[.pointer (some ⟨b,0,none⟩),v,.slice pm nm cm,.slice ps ns cs] w fun en w'=>∃X,en=.returned (.bool X)/\(X=true ↔ Jj P Q G Y msg sig)/\Below w.heap.size w w':=by
 obtain⟨py,ny,cy,rfl,h1,h2⟩:=Aq (hv.wide he);have hb0:Below w.heap.size w (w.alloc (.cells #[.slice py ny cy] 36)):=Cf;have hX0:=Ae.made w (.slice py ny cy);obtain⟨wa,hwa⟩:∃W,w.alloc (.cells #[.slice py ny cy] 36)=W:=⟨_,rfl⟩
 rw[hwa]at hb0 hX0
 have HX0:=Aa hX0;have HBL:=Aa hb0;have HY0:=Aa ((Fit.of h1 h2).below hb0);have HGA:=Aa hg;have HT:=Aa hT;have HM:=Aa hm;have HPs:=Aa hP;have HSG:=Aa (Yi (Rf.of (hg.below hb0)) hQ (hs.below hb0));have hlims:=hg.lims;have HL:=Aa hlims;clear h1 h2 hg hv hT hm hP hs hX0 hb0 hlims;go_enter Tryz.func43,Tryz.ntmps43
 go_wp2_with fail
 refine HSG.out.mono ?_;rintro en w1 ⟨x,y,X,rfl,hX,hN,hb1⟩;have hb2:Below w1.heap.size w1 (w1.alloc (.cells #[.slice x.1 x.2.1 x.2.2,.slice y.1 y.2.1 y.2.2] 142)):=Cf;have hS2:=Da.made w1 (.slice x.1 x.2.1 x.2.2) (.slice y.1 y.2.1 y.2.2);obtain⟨b9,hb9⟩:∃b,w1.heap.size=b:=⟨_,rfl⟩
 obtain⟨w2,hw2⟩:∃W,w1.alloc (.cells #[.slice x.1 x.2.1 x.2.2,.slice y.1 y.2.1 y.2.2] 142)=W:=⟨_,rfl⟩
 rw[hw2]at hb2 hS2
 rw[hb9]at hS2
 have hb12:=Af hb1 hb2;have HS2:=Aa hS2;have HN2:Ad (Fa Q sig->Eb w2 x (be (sig.take (As Q)))/\Eb w2 y (be (sig.drop (As Q)))):=⟨fun h=>⟨(hN h).1.below hb2,(hN h).2.below hb2⟩⟩
 have HX2:=Aa (HX0.out.below hb12 HX0.out.lt);have HY2:=Aa (HY0.out.below hb12);have HB2:=Aa (Af HBL.out hb12);have HXI:=Aa hX;clear hX hN hb1 hb2 hS2 hb12 HX0 HY0 HBL HSG hwa
 cases X with
 | false=>
  have HF:Ad (false=true ↔ Jj P Q G Y msg sig):=⟨⟨(fun h=>by cases h),fun h=>HXI.out.2 h.1⟩⟩
  go_wp2;go_ret;exact⟨false,rfl,HF.out,HB2.out⟩
 | true=>
  have hin:=HXI.out.1 rfl;have HIN:=Aa hin;have hn:=HN2.out hin;have HCN2:=Aa hn.1;have HSN2:=Aa hn.2;have c0:=HX2.out.cell;obtain⟨CC,hCC⟩:∃C,be (sig.take (As Q))=C:=⟨_,rfl⟩
  obtain⟨SS,hSS⟩:∃C,be (sig.drop (As Q))=C:=⟨_,rfl⟩
  rw[hCC]at HCN2
  rw[hSS]at HSN2
  have HCL:Ad (CC<Ao 33):=⟨by rw[<-hCC];exact Nat.lt_trans hin.2.1 HL.out.2.2.2⟩
  have HSL:Ad (SS<Ao 33):=⟨by rw[<-hSS];exact Nat.lt_trans hin.2.2 HL.out.2.2.2⟩
  have HOK:Ad (Jj P Q G Y msg sig ↔ Ro P Q Y/\Jk P Q (To P G Y CC SS) Y msg=CC):=⟨by
   unfold Jj;rw[hCC,hSS];exact⟨fun h=>h.2,fun h=>⟨hin,h⟩⟩⟩
  clear hCC hSS hin hn HN2 HXI
  by_cases hm:0<Y/\Y<P/\Y^Q%P=1
  .have HMT:Ad _:=⟨decide_eq_true hm⟩
   have HYl:=Aa hm.2.1;have HMM:Ad (Ro P Q Y):=⟨hm⟩
   clear hm
   go_wp2_with fail
   refine(Ic (HGA.out.below HB2.out) HY2.out (by decide)).mono ?_;rintro en w3 ⟨rfl,hb3⟩;rw[HMT.out];have HB3:=Aa (Af HB2.out hb3);have HXY:=Aa (HX2.out.below hb3 HX2.out.lt);have HY:=Aa (HY2.out.below hb3);have HS9:=Aa (HS2.out.below hb3 HS2.out.lt);have HCN:Ad (Eb w3 x CC):=⟨HCN2.out.below hb3⟩
   have HSN:Ad (Eb w3 y SS):=⟨HSN2.out.below hb3⟩
   have HG:=Aa (HGA.out.below HB3.out);obtain⟨AA,hAA⟩:∃A,To P G Y CC SS=A:=⟨_,rfl⟩
   have HAE:=Aa hAA;have HAAl:Ad (AA<P):=⟨by rw[<-hAA];exact Nat.mod_lt _ (by have:=HL.out.1;omega)⟩
   have HT7:=Aa (HT.out.below HB3.out HT.out.size);have HM7:=Aa (HM.out.below HB3.out);obtain⟨CH,hCH⟩:∃C,Jk P Q AA Y msg=C:=⟨_,rfl⟩
   obtain⟨KC,hKC⟩:∃K,Bm CH CC=K:=⟨_,rfl⟩
   obtain⟨ANS,hANS⟩:∃A,((KC:Int)==0)=A:=⟨_,rfl⟩
   have hE:=hANS;have HCH:=Aa hCH;have HKc:=Aa hKC;have HF:Ad (ANS=true ↔ Jj P Q G Y msg sig):=⟨by
    rw[HOK.out,hAA,hCH,<-hANS,<-hKC,beq_iff_eq,Cb];exact⟨fun h=>⟨HMM.out,h⟩,fun h=>h.2⟩⟩
   clear hAA hb3 HX2 HY2 HS2 HCN2 HSN2 c0 hCH hKC hANS;go_wp2;clear hw2 hb9;refine Ak (by kernel_rfl) (by kernel_rfl)
    [some (.pointer (some ⟨b,0,none⟩)),some (.agg #[.slice x.1 x.2.1 x.2.2,.slice y.1 y.2.1 y.2.2]),some (.pointer (some ⟨b,0,none⟩)),some (.pointer (some ⟨b,0,none⟩)),none,some (.agg #[.slice py ny cy]),none,some (.agg #[.slice py ny cy]),some (.slice pm nm cm),none,some (.pointer (some ⟨b9,0,none⟩)),some (.agg #[.slice x.1 x.2.1 x.2.2]),none,some (.bool ANS),some (.bool ANS)]
    [false,false,false,false,true,false,true,false,false,true,false,false,true,false,false] rfl
    (fun w1 w2=>Below w1.heap.size w1 w2)
    (fun _ w'=>Below w3.heap.size w3 w')
    (fun i v w'=>match i with
     | 4=>Fit 33 G v w'
     | 6=>Fit 33 (AA) v w'
     | 9=>Fit 33 (CH) v w'
     | 12=>v=.int .i64 KC
     | _=>True)
    ?_ (Bc _ _).drew ?_ ?_
   .intro i v w1 w2 hf hb;split at hf
    .exact hf.below hb
    .exact hf.below hb
    .exact hf.below hb
    .exact hf
    .trivial
   .simp only[Bb,Nat.reduceAdd];refine⟨?_,?_,?_,?_,?_,?_,?_,?_,?_,?_,?_,?_,?_,?_,?_,trivial⟩
    all_goals intro D sp w' hD hW hdp hbx'
    case refine_2=>
     have c0:=(HS9.out.below hbx' HS9.out.lt).cells
     with_reducible refine Ac ?_ ?_
     all_goals simp[Region.wanted,yielded,execOp,Act.eval,Act.put,go_sem,c0.1,c0.2]
    case refine_5=>
     (with_reducible refine Ab (w1:=w') (f := 42) (args:=#[.pointer (some ⟨b,0,none⟩)]) ?_ ?_ ?_)
     .simp[Region.wanted,yielded,Act.put,go_sem]
     .simp[Act.eval,Act.put,go_sem]
     .refine(Wr (HG.out.below hbx')).mono ?_;rintro en w9 ⟨u,rfl,hu,hb⟩;exact⟨u,rfl,hb,hu,Af hbx' hb⟩
    case refine_6|refine_8=>
     have c0:=(HXY.out.below hbx' HXY.out.lt).cell
     with_reducible refine Ac ?_ ?_
     all_goals simp[Region.wanted,yielded,execOp,Act.eval,Act.put,go_sem,c0]
    case refine_7=>
     have k4:Fit 33 G (sp 4) w':=(hdp 4 (mq (by kernel_rfl))).2
     (with_reducible refine Ab (w1:=w') (f := 103) (args:=#[.agg #[.slice x.1 x.2.1 x.2.2,.slice y.1 y.2.1 y.2.2],.pointer (some ⟨b,0,none⟩),sp 4,.agg #[.slice py ny cy]]) ?_ ?_ ?_)
     .simp[Region.wanted,yielded,Act.put,go_sem]
     .simp[Act.eval,Act.put,go_sem]
     .refine(Zo (HG.out.below hbx') k4 (HY.out.below hbx') (by decide) (by decide) (HCN.out.below hbx') (HSN.out.below hbx') HCL.out HSL.out).mono ?_;rintro en w9 ⟨u,rfl,hu,hb⟩;rw[HAE.out]at hu
      exact⟨u,rfl,hb,hu,Af hbx' hb⟩
    case refine_10=>
     have k6:Fit 33 (AA) (sp 6) w':=(hdp 6 (mq (by kernel_rfl))).2
     (with_reducible refine Ab (w1:=w') (f := 93) (args:=#[.pointer (some ⟨b,0,none⟩),sp 6,.agg #[.slice py ny cy],.slice pm nm cm]) ?_ ?_ ?_)
     .simp[Region.wanted,yielded,Act.put,go_sem]
     .simp[Act.eval,Act.put,go_sem]
     .refine(Qm (HG.out.below hbx') (HT7.out.below hbx' HT7.out.size) k6 (HY.out.below hbx') (by decide) HAAl.out HYl.out HPs.out (HM7.out.below hbx')).mono ?_;rintro en w9 ⟨u,rfl,hu,hb⟩;rw[HCH.out]at hu
      exact⟨u,rfl,hb,hu,Af hbx' hb⟩
    case refine_12=>
     have c0:=(HS9.out.below hbx' HS9.out.lt).cells.1
     with_reducible refine Ac ?_ ?_
     all_goals simp[Region.wanted,yielded,execOp,Act.eval,Act.put,go_sem,c0]
    case refine_13=>
     have k9:Fit 33 (CH) (sp 9) w':=(hdp 9 (mq (by kernel_rfl))).2
     (with_reducible refine Ab (w1:=w') (f := 33) (args:=#[sp 9,.agg #[.slice x.1 x.2.1 x.2.2]]) ?_ ?_ ?_)
     .simp[Region.wanted,yielded,Act.put,go_sem]
     .simp[Act.eval,Act.put,go_sem]
     .refine(Be k9 (Fit.of (HCN.out.below hbx') HCL.out) (by decide) (by decide) HKc.out).mono ?_;rintro en w9 ⟨u,rfl,rfl,hb⟩;exact⟨_,rfl,hb,rfl,Af hbx' hb⟩
    case refine_14=>
     have k12:(sp 12)=.int .i64 KC:=(hdp 12 (mq (by kernel_rfl))).2
     with_reducible refine Ac ?_ ?_
     all_goals simp[Region.wanted,yielded,execOp,Act.eval,Act.put,go_sem,k12,hE]
    all_goals ((with_reducible refine Ac ?_ ?_);all_goals first|(simp only[Region.wanted];done)|simp[Region.wanted,yielded,execOp,Act.eval,Act.put,go_sem])
   .intro sp w8 hsp hb8;have HBf:=Aa (Af HB3.out hb8);clear hsp hb8 hE;simp only[Am,Nat.reduceAdd];generalize sp 4=y4,sp 6=y6,sp 9=y9,sp 12=y12 at *
    go_simp
    go_wp2;go_ret;exact⟨ANS,rfl,HF.out,HBf.out⟩
  .have HMT:Ad _:=⟨decide_eq_false hm⟩
   have HF:Ad (false=true ↔ Jj P Q G Y msg sig):=⟨⟨(fun h=>by cases h),fun h=>absurd (HOK.out.1 h).1 hm⟩⟩
   clear hm
   go_wp2_with fail
   refine(Ic (HGA.out.below HB2.out) HY2.out (by decide)).mono ?_;rintro en w3 ⟨rfl,hb3⟩;rw[HMT.out];have HB3:=Aa (Af HB2.out hb3);clear hb3 c0;go_wp2;go_ret;exact⟨false,rfl,HF.out,HB3.out⟩
end Go.Proofs.YthgoeiegdhphjaaGreatDoor
