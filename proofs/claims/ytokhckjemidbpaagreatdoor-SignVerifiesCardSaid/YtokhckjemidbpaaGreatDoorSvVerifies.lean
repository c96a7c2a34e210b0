/- SignVerifies, walked: whether any bytes are a signature that verifies is as the document says. -/
import Derived.Test.YtokhckjemidbpaaGreatDoorSdC
set_option maxRecDepth 1000000
set_option maxHeartbeats 16000000
set_option linter.all false
namespace Go.Proofs.YtokhckjemidbpaaGreatDoor
open Go Go.RowKit Go.Proofs.YtokhckjemidbpaaGreatDoor.Flow
theorem jE (w:World)(hr:Tabs w)(A0:Int)(X:Nat)(hX:pB X)(mb:Bool)(pm:Option Addr)(nm cm:Nat)(msg:List Nat)(hm:Ax w ⟨pm,nm,cm,msg⟩)(hz:pm=none->cm=0)(ps:Option Addr)(ns cs:Nat)(sig:List Nat)(hs:Ax w ⟨ps,ns,cs,sig⟩) :
  Calls Tryz.prog 4 #[.int .i64 A0,.int .u64 (X:Nat),.bool mb,.slice pm nm cm,.slice ps ns cs] w fun e w'=>e=.returned (.bool true)/\Below w.heap.size w w':=by
 have HLI:=Ab Hr;have HT0:=Ab hr;have HM0:=Ab hm;have HS0:=Ab hs;have HZM:=Ab hz;have HXl:Aa (X<18446744073709551616):=⟨hX⟩
 have hcap:nm<=cm:=hm.row.cap;have hmax:cm<=9223372036854775807:=hm.row.max;have hcap2:ns<=cs:=hs.row.cap;have hmax2:cs<=9223372036854775807:=hs.row.max;obtain⟨i,hi⟩:∃i,((IntKind.u64.wrap A0)%3).toNat=i:=⟨_,rfl⟩
 have HI3:Aa (i<3):=⟨by rw[<-hi];exact Tv A0⟩
 have HI:=Ab hi;clear hr hX hi hm hz hs;go_enter Tryz.func4,Tryz.ntmps4
 go_wp2_with fail
 refine(HLI.out w HT0.out).mono ?_;rintro en w1 ⟨rfl,b1⟩;have B1:=Ab b1;clear b1
 by_cases hn3:300<nm
 .have hn3':(300:Int)<nm:=by omega
  go_wp2_with fail
  refine(HLI.out w1 (HT0.out.below B1.out HT0.out.size)).mono ?_;rintro en w2 ⟨rfl,b2⟩;have B2:=Ab (Ae B1.out b2);clear b2;go_wp2;go_ret;exact⟨rfl,B2.out⟩
 have hn3':¬(300:Int)<nm:=by omega
 by_cases hn4:300<ns
 .have hn4':(300:Int)<ns:=by omega
  go_wp2_with fail
  refine(HLI.out w1 (HT0.out.below B1.out HT0.out.size)).mono ?_;rintro en w2 ⟨rfl,b2⟩;have B2:=Ab (Ae B1.out b2);clear b2;go_wp2;go_ret;exact⟨rfl,B2.out⟩
 have hn4':¬(300:Int)<ns:=by omega
 have HNM:Aa (nm<=1000):=⟨by omega⟩
 go_wp2_with fail
 refine(Fw w1 A0 (HT0.out.below B1.out HT0.out.size)).mono ?_;rintro en w2 ⟨b,rfl,hg2,b2⟩;rw[HI.out]at hg2
 obtain⟨P,hP⟩:∃P,gP i=P:=⟨_,rfl⟩
 obtain⟨Q,hQ⟩:∃P,gQ i=P:=⟨_,rfl⟩
 obtain⟨G,hG⟩:∃P,gG i=P:=⟨_,rfl⟩
 obtain⟨H,hH⟩:∃P,gH i=P:=⟨_,rfl⟩
 have HGP:Aa (G<P):=⟨by rw[<-hP,<-hG];exact(Ko i HI3.out).2.2.1⟩
 have HP2:Aa (2<=P):=⟨by rw[<-hP];exact dD i HI3.out⟩
 have HQ2:Aa (2<=Q):=⟨by rw[<-hQ];exact Ty i HI3.out⟩
 have HPf:Aa (Ak P<=16):=⟨by rw[<-hP];exact Ol i HI3.out⟩
 have HQf:Aa (Ak Q<=16):=⟨by rw[<-hQ];exact Ql i HI3.out⟩
 rw[hP,hQ,hG,hH]at hg2
 have HG2:=Ab hg2;have B2:=Ab (Ae B1.out b2);clear hg2 b2 hP hQ hG hH B1
 go_wp2_with fail
 refine(Co (n:=X) w2 HXl.out).mono ?_;rintro en w3 ⟨_,rfl,⟨p1,n1,c1,rfl,h3,l3⟩,b3⟩;have hb4:Below w3.heap.size w3 (w3.alloc (.cells #[.slice p1 n1 c1] 37)):=Bx;have hX4:=Af.made w3 (.slice p1 n1 c1);obtain⟨w4,hw4⟩:∃W,w3.alloc (.cells #[.slice p1 n1 c1] 37)=W:=⟨_,rfl⟩
 rw[hw4]at hb4 hX4
 obtain⟨b12,hb12⟩:∃b,w3.heap.size=b:=⟨_,rfl⟩
 rw[hb12]at hX4
 have HX4:=Ab hX4;have HF3:Aa (Fit 2 X (.agg #[.slice p1 n1 c1]) w4):=⟨(Fit.of h3 l3).below hb4⟩
 have HG3:Aa (Bc w4 b P Q G H):=⟨HG2.out.below (Ae b3 hb4)⟩
 have B4:=Ab (Ae B2.out (Ae b3 hb4));have HGW:Aa (Bc w3 b P Q G H):=⟨HG2.out.below b3⟩
 have HB34:Aa (Below b12 w3 w4):=⟨by rw[<-hb12];exact hb4⟩
 have HE12:=Ab hb12;have B3:=Ab (Ae B2.out b3);clear h3 l3 b3 hb4 hX4 HG2 B2
 cases mb with
 | true=>
  obtain⟨A,hAE⟩:∃Z,G^X%P=Z:=⟨_,rfl⟩
  have HAE:=Ab hAE;have HAl:Aa (A<Ar 33):=⟨by rw[<-hAE];exact Nat.lt_trans (Nat.mod_lt _ (by have:=HP2.out;omega)) HG3.out.lims.2.1⟩
  have HG3:Aa (Jt b12 w4 b P Q G H):=⟨⟨w3,HGW.out,by rw[HE12.out];exact As _,⟨HB34.out,fun p n c N k=>k.below (by rw[HE12.out];exact HB34.out)⟩⟩⟩
  clear hAE;go_wp2;clear hw4 hb12;refine Am (by kernel_rfl) (by kernel_rfl)
   [some (.pointer (some ⟨b,0,none⟩)),some (.pointer (some ⟨b,0,none⟩)),none,some (.agg #[.slice p1 n1 c1]),none,none]
   [false,false,true,false,true,true] rfl
   (fun wA wB=>Ap (b12) wA wB)
   (fun D sp w'=>RG (b12) w4 [] w'/\pL (D 5) (b12) p1 n1 c1 (A) w')
   (fun i v w'=>match i with
    | 2=>Fit 33 G v w'
    | 4=>Fit 33 (A) v w'
    | _=>True)
   ?_ ⟨RG.start (by have:=HX4.out.lt;omega) (fun x hx=>by cases hx),⟨fun _=>HX4.out,fun e=>by cases e⟩⟩ ?_ ?_
  .intro i v wA wB hf hb;split at hf
   .exact hf.keep hb
   .exact hf.keep hb
   .trivial
  .simp only[Bf,Nat.reduceAdd];refine⟨?_,?_,?_,?_,?_,?_,trivial⟩
   all_goals intro D sp w' hD hW hdp hg
   case refine_3=>
    (with_reducible refine Ac (w1:=w') (f := 26) (args:=#[.pointer (some ⟨b,0,none⟩)]) ?_ ?_ ?_)
    .simp[Region.wanted,yielded,Act.put,go_sem]
    .simp[Act.eval,Act.put,go_sem]
    .refine(Mm (HG3.out.keep hg.1.keep)).mono ?_;rintro en w9 ⟨u,rfl,hu,hb⟩;exact⟨u,rfl,Ap.of hb hg.1.base,hu,hg.1.later hb,by simpa [upd]using hg.2.later hb⟩
   case refine_4=>
    have c0:=(hg.2.z (hW 5 (mq (by kernel_rfl)))).cell
    with_reducible refine Ad ?_ ?_
    all_goals simp[Region.wanted,yielded,execOp,Act.eval,Act.put,go_sem,c0]
   case refine_5=>
    have k2:Fit 33 G (sp 2) w':=(hdp 2 (mq (by kernel_rfl))).2
    (with_reducible refine Ac (w1:=w') (f := 25) (args:=#[.pointer (some ⟨b,0,none⟩),sp 2,.agg #[.slice p1 n1 c1]]) ?_ ?_ ?_)
    .simp[Region.wanted,yielded,Act.put,go_sem]
    .simp[Act.eval,Act.put,go_sem]
    .refine(Jb (HG3.out.keep hg.1.keep) k2 (HF3.out.keep hg.1.keep) (by decide) (by decide)).mono ?_;rintro en w9 ⟨u,rfl,hu,hb⟩;rw[HAE.out]at hu
     exact⟨u,rfl,Ap.of hb hg.1.base,hu,hg.1.later hb,by simpa [upd]using hg.2.later hb⟩
   case refine_6=>
    have hx:∃p n c,sp 4=.agg #[.slice p n c]/\Aj w' p n c (A)/\A<Ar (33):=(hdp 4 (mq (by kernel_rfl))).2
    (with_reducible refine Ay hx fun p hx1=>Ay hx1 fun n hx2=>Ay hx2 fun c hx3=>?_)
    have h1:=hx3.1;rw[hD]at hg
    have hp:=hg.2.put (hx3.2.1)
    (with_reducible refine Ay hp fun q hy1=>Ay hy1 fun m hy2=>Ay hy2 fun k hy3=>?_)
    have h6:=hy3.1.cell;have h7:=hy3.1.free
    (with_reducible refine Aq (w1:=w'.setCell ⟨b12,0,none⟩ (.slice p n c)) ?_ ?_ ?_)
    .simp[Region.wanted,yielded,Act.put,go_sem]
    .simp[execOp,Act.eval,Act.put,go_sem,h1,h6,h7]
    .refine⟨Ap.store hy3.1 (As _) _,trivial,hg.1.store hy3.1 (As _) (fun x hx=>by cases hx) _,?_⟩;have h8:=hy3.2;simpa [upd]using h8
   all_goals ((with_reducible refine Ad ?_ ?_);all_goals first|(simp only[Region.wanted];done)|simp[Region.wanted,yielded,execOp,Act.eval,Act.put,go_sem])
  .intro sp w5 hsp hg;obtain⟨hg1,hst⟩:=hg;obtain⟨pa,na,ca,hxa,hna⟩:=hst.o rfl;have hB5:Below w3.heap.size w3 w5:=by rw[HE12.out];exact HB34.out.trans hg1.keep.bel
   have HXA:Aa (Af w5 b12 (.slice pa na ca)):=⟨hxa⟩
   have HFA:Aa (Fit 33 A (.agg #[.slice pa na ca]) w5):=⟨Fit.of hna HAl.out⟩
   have HG:Aa (Bc w5 b P Q G H):=⟨HG3.out.keep hg1.keep⟩
   have HB:=Ab (Ae B3.out hB5);have HT:=Ab (HT0.out.below HB.out HT0.out.size);have HM:=Ab (HM0.out.below HB.out);have HSG:=Ab (HS0.out.below HB.out);clear hsp hg1 hst hxa hna hB5;simp only[An,Nat.reduceAdd];generalize sp 2=z2,sp 4=z4 at *
   go_simp
   have HAb:Aa (Ao A<=100000):=⟨by have:=dR HFA.out.lim;omega⟩
   obtain⟨VX,hVX⟩:∃B:Bool,(B=true ↔ Cv P Q G A msg sig):=⟨@decide (Cv P Q G A msg sig) (Classical.propDecidable _),by simp⟩
   have HVX:Aa (∀X9:Bool,(X9=true ↔ Cv P Q G A msg sig)->X9=VX):=⟨fun X9 h9=>by rw[Bool.eq_iff_iff,h9,hVX]⟩
   clear hVX;go_wp2;refine Ah (by kernel_rfl) (by kernel_rfl)
    [some (.pointer (some ⟨b,0,none⟩)),some (.agg #[.slice pa na ca]),some (.slice pm nm cm),some (.slice ps ns cs),none,some (.pointer (some ⟨b,0,none⟩)),none,some (.agg #[.slice pa na ca]),none,some (.slice pm nm cm),some (.slice ps ns cs),none,some (.bool true),some (.bool true),some (.agg #[.slice pa na ca]),some (.slice pm nm cm),some (.slice ps ns cs),none,some (.bool true),some (.bool true),some (.bool true),none,some (.bool true),some (.bool true),some (.bool true)]
    [false,false,false,false,true,false,true,false,true,false,false,true,false,false,false,false,false,true,false,false,false,true,false,false,false] rfl
    (fun w1 w2=>Below w1.heap.size w1 w2)
    (fun _ w'=>Below w5.heap.size w5 w')
    (fun i v w'=>match i with
     | 4=>v=.bool VX
     | 6=>Cb P Q G H v w'
     | 8=>Al A v w'
     | 11=>v=.bool VX
     | 17=>v=.bool false
     | 21=>v=.int .i64 0
     | _=>True)
    ?_ (Bb _ _).drew ?_ ?_
   .intro i v w1 w2 hf hb;split at hf
    .exact hf
    .exact hf.below hb
    .exact hf.below hb
    .exact hf
    .exact hf
    .exact hf
    .trivial
   .simp only[Ba,Nat.reduceAdd];refine⟨?_,?_,?_,?_,?_,?_,?_,?_,?_,?_,?_,?_,?_,?_,?_,?_,?_,?_,?_,?_,?_,?_,?_,?_,?_,trivial⟩
    all_goals intro D sp w' hD hW hdp hbx'
    case refine_2|refine_8|refine_15=>
     have c0:=(HXA.out.below hbx' HXA.out.lt).cell
     with_reducible refine Ad ?_ ?_
     all_goals simp[Region.wanted,yielded,execOp,Act.eval,Act.put,go_sem,c0]
    case refine_5=>
     (with_reducible refine Ac (w1:=w') (f := 27) (args:=#[.pointer (some ⟨b,0,none⟩),.agg #[.slice pa na ca],.slice pm nm cm,.slice ps ns cs]) ?_ ?_ ?_)
     .simp[Region.wanted,yielded,Act.put,go_sem]
     .simp[Act.eval,Act.put,go_sem]
     .refine(Dh (HG.out.below hbx') (HT.out.below hbx' HT.out.size) (HFA.out.below hbx') (by decide) HPf.out HQf.out (HM.out.below hbx') (HSG.out.below hbx')).mono ?_;rintro en w9 ⟨X9,rfl,hX9,hb⟩;have hf9:=HVX.out X9 hX9;rw[hf9];exact⟨_,rfl,hb,rfl,Ae hbx' hb⟩
    case refine_7=>
     (with_reducible refine Ac (w1:=w') (f := 15) (args:=#[.pointer (some ⟨b,0,none⟩)]) ?_ ?_ ?_)
     .simp[Region.wanted,yielded,Act.put,go_sem]
     .simp[Act.eval,Act.put,go_sem]
     .refine(Jp (HG.out.below hbx')).mono ?_;rintro en w9 ⟨u,rfl,hu,hb⟩;exact⟨u,rfl,hb,hu,Ae hbx' hb⟩
    case refine_9=>
     (with_reducible refine Ac (w1:=w') (f := 29) (args:=#[.agg #[.slice pa na ca]]) ?_ ?_ ?_)
     .simp[Region.wanted,yielded,Act.put,go_sem]
     .simp[Act.eval,Act.put,go_sem]
     .refine(Dp (HFA.out.below hbx') (by decide)).mono ?_;rintro en w9 ⟨u,rfl,hu,hb⟩;exact⟨u,rfl,hb,hu,Ae hbx' hb⟩
    case refine_12=>
     have k6:Cb P Q G H (sp 6) w':=(hdp 6 (mq (by kernel_rfl))).2;have k8:Al A (sp 8) w':=(hdp 8 (mq (by kernel_rfl))).2
     (with_reducible refine Ac (w1:=w') (f := 28) (args:=#[sp 6,sp 8,.slice pm nm cm,.slice ps ns cs]) ?_ ?_ ?_)
     .simp[Region.wanted,yielded,Act.put,go_sem]
     .simp[Act.eval,Act.put,go_sem]
     .refine(Nx k6 k8 HAb.out HGP.out HQ2.out HP2.out HPf.out HQf.out (HM.out.below hbx') HZM.out HNM.out (HSG.out.below hbx')).mono ?_;rintro en w9 ⟨X9,rfl,hX9,hb⟩;have hf9:=HVX.out X9 hX9;rw[hf9];exact⟨_,rfl,hb,rfl,Ae hbx' hb⟩
    case refine_13=>
     have k4:(sp 4)=.bool VX:=(hdp 4 (mq (by kernel_rfl))).2;have k11:(sp 11)=.bool VX:=(hdp 11 (mq (by kernel_rfl))).2
     with_reducible refine Ad ?_ ?_
     all_goals simp[Region.wanted,yielded,execOp,Act.eval,Act.put,go_sem,k4,k11]
    case refine_18=>
     (with_reducible refine Ac (w1:=w') (f := 27) (args:=#[.pointer none,.agg #[.slice pa na ca],.slice pm nm cm,.slice ps ns cs]) ?_ ?_ ?_)
     .simp[Region.wanted,yielded,Act.put,go_sem]
     .simp[Act.eval,Act.put,go_sem]
     .refine(Sn (HFA.out.below hbx') (HSG.out.below hbx')).mono ?_;rintro en w9 ⟨rfl,hb⟩;exact⟨_,rfl,hb,rfl,Ae hbx' hb⟩
    case refine_19=>
     have k17:(sp 17)=.bool false:=(hdp 17 (mq (by kernel_rfl))).2
     with_reducible refine Ad ?_ ?_
     all_goals simp[Region.wanted,yielded,execOp,Act.eval,Act.put,go_sem,k17]
    case refine_22=>
     (with_reducible refine Ac (w1:=w') (f := 23) (args:=#[.pointer none]) ?_ ?_ ?_)
     .simp[Region.wanted,yielded,Act.put,go_sem]
     .simp[Act.eval,Act.put,go_sem]
     .refine(Qe (Q:=0) (g0:=.pointer none) (w:=w') (.inr ⟨rfl,rfl⟩) (by decide)).mono ?_;rintro en w9 ⟨rfl,hb⟩;exact⟨_,rfl,hb,rfl,Ae hbx' hb⟩
    case refine_23=>
     have k21:(sp 21)=.int .i64 0:=(hdp 21 (mq (by kernel_rfl))).2
     with_reducible refine Ad ?_ ?_
     all_goals simp[Region.wanted,yielded,execOp,Act.eval,Act.put,go_sem,k21]
    all_goals ((with_reducible refine Ad ?_ ?_);all_goals first|(simp only[Region.wanted];done)|simp[Region.wanted,yielded,execOp,Act.eval,Act.put,go_sem])
   .intro sp w9 hsp hb;have HBf:=Ab (Ae HB.out hb);clear hsp hb;simp only[An,Nat.reduceAdd];generalize sp 4=y4,sp 6=y6,sp 8=y8,sp 11=y11,sp 17=y17,sp 21=y21 at *
    go_simp
    go_wp2;go_ret;exact⟨rfl,HBf.out⟩
 | false=>
  obtain⟨A,hAE⟩:∃Z,X=Z:=⟨_,rfl⟩
  obtain⟨pa,hpa⟩:∃Z,p1=Z:=⟨_,rfl⟩
  obtain⟨na,hna⟩:∃Z,n1=Z:=⟨_,rfl⟩
  obtain⟨ca,hca⟩:∃Z,c1=Z:=⟨_,rfl⟩
  have HXA:Aa (Af w4 b12 (.slice pa na ca)):=⟨by rw[<-hpa,<-hna,<-hca];exact HX4.out⟩
  have HFA:Aa (Fit 33 A (.agg #[.slice pa na ca]) w4):=⟨by rw[<-hpa,<-hna,<-hca,<-hAE];exact HF3.out.wide (by decide)⟩
  have HG:Aa (Bc w4 b P Q G H):=⟨HG3.out⟩
  have HB:=Ab B4.out;have HT:=Ab (HT0.out.below HB.out HT0.out.size);have HM:=Ab (HM0.out.below HB.out);have HSG:=Ab (HS0.out.below HB.out);clear hAE hpa hna hca HX4 HF3;have HAb:Aa (Ao A<=100000):=⟨by have:=dR HFA.out.lim;omega⟩
  obtain⟨VX,hVX⟩:∃B:Bool,(B=true ↔ Cv P Q G A msg sig):=⟨@decide (Cv P Q G A msg sig) (Classical.propDecidable _),by simp⟩
  have HVX:Aa (∀X9:Bool,(X9=true ↔ Cv P Q G A msg sig)->X9=VX):=⟨fun X9 h9=>by rw[Bool.eq_iff_iff,h9,hVX]⟩
  clear hVX;go_wp2;clear hw4 hb12;refine Ah (by kernel_rfl) (by kernel_rfl)
   [some (.pointer (some ⟨b,0,none⟩)),some (.agg #[.slice pa na ca]),some (.slice pm nm cm),some (.slice ps ns cs),none,some (.pointer (some ⟨b,0,none⟩)),none,some (.agg #[.slice pa na ca]),none,some (.slice pm nm cm),some (.slice ps ns cs),none,some (.bool true),some (.bool true),some (.agg #[.slice pa na ca]),some (.slice pm nm cm),some (.slice ps ns cs),none,some (.bool true),some (.bool true),some (.bool true),none,some (.bool true),some (.bool true),some (.bool true)]
   [false,false,false,false,true,false,true,false,true,false,false,true,false,false,false,false,false,true,false,false,false,true,false,false,false] rfl
   (fun w1 w2=>Below w1.heap.size w1 w2)
   (fun _ w'=>Below w4.heap.size w4 w')
   (fun i v w'=>match i with
    | 4=>v=.bool VX
    | 6=>Cb P Q G H v w'
    | 8=>Al A v w'
    | 11=>v=.bool VX
    | 17=>v=.bool false
    | 21=>v=.int .i64 0
    | _=>True)
   ?_ (Bb _ _).drew ?_ ?_
  .intro i v w1 w2 hf hb;split at hf
   .exact hf
   .exact hf.below hb
   .exact hf.below hb
   .exact hf
   .exact hf
   .exact hf
   .trivial
  .simp only[Ba,Nat.reduceAdd];refine⟨?_,?_,?_,?_,?_,?_,?_,?_,?_,?_,?_,?_,?_,?_,?_,?_,?_,?_,?_,?_,?_,?_,?_,?_,?_,trivial⟩
   all_goals intro D sp w' hD hW hdp hbx'
   case refine_2|refine_8|refine_15=>
    have c0:=(HXA.out.below hbx' HXA.out.lt).cell
    with_reducible refine Ad ?_ ?_
    all_goals simp[Region.wanted,yielded,execOp,Act.eval,Act.put,go_sem,c0]
   case refine_5=>
    (with_reducible refine Ac (w1:=w') (f := 27) (args:=#[.pointer (some ⟨b,0,none⟩),.agg #[.slice pa na ca],.slice pm nm cm,.slice ps ns cs]) ?_ ?_ ?_)
    .simp[Region.wanted,yielded,Act.put,go_sem]
    .simp[Act.eval,Act.put,go_sem]
    .refine(Dh (HG.out.below hbx') (HT.out.below hbx' HT.out.size) (HFA.out.below hbx') (by decide) HPf.out HQf.out (HM.out.below hbx') (HSG.out.below hbx')).mono ?_;rintro en w9 ⟨X9,rfl,hX9,hb⟩;have hf9:=HVX.out X9 hX9;rw[hf9];exact⟨_,rfl,hb,rfl,Ae hbx' hb⟩
   case refine_7=>
    (with_reducible refine Ac (w1:=w') (f := 15) (args:=#[.pointer (some ⟨b,0,none⟩)]) ?_ ?_ ?_)
    .simp[Region.wanted,yielded,Act.put,go_sem]
    .simp[Act.eval,Act.put,go_sem]
    .refine(Jp (HG.out.below hbx')).mono ?_;rintro en w9 ⟨u,rfl,hu,hb⟩;exact⟨u,rfl,hb,hu,Ae hbx' hb⟩
   case refine_9=>
    (with_reducible refine Ac (w1:=w') (f := 29) (args:=#[.agg #[.slice pa na ca]]) ?_ ?_ ?_)
    .simp[Region.wanted,yielded,Act.put,go_sem]
    .simp[Act.eval,Act.put,go_sem]
    .refine(Dp (HFA.out.below hbx') (by decide)).mono ?_;rintro en w9 ⟨u,rfl,hu,hb⟩;exact⟨u,rfl,hb,hu,Ae hbx' hb⟩
   case refine_12=>
    have k6:Cb P Q G H (sp 6) w':=(hdp 6 (mq (by kernel_rfl))).2;have k8:Al A (sp 8) w':=(hdp 8 (mq (by kernel_rfl))).2
    (with_reducible refine Ac (w1:=w') (f := 28) (args:=#[sp 6,sp 8,.slice pm nm cm,.slice ps ns cs]) ?_ ?_ ?_)
    .simp[Region.wanted,yielded,Act.put,go_sem]
    .simp[Act.eval,Act.put,go_sem]
    .refine(Nx k6 k8 HAb.out HGP.out HQ2.out HP2.out HPf.out HQf.out (HM.out.below hbx') HZM.out HNM.out (HSG.out.below hbx')).mono ?_;rintro en w9 ⟨X9,rfl,hX9,hb⟩;have hf9:=HVX.out X9 hX9;rw[hf9];exact⟨_,rfl,hb,rfl,Ae hbx' hb⟩
   case refine_13=>
    have k4:(sp 4)=.bool VX:=(hdp 4 (mq (by kernel_rfl))).2;have k11:(sp 11)=.bool VX:=(hdp 11 (mq (by kernel_rfl))).2
    with_reducible refine Ad ?_ ?_
    all_goals simp[Region.wanted,yielded,execOp,Act.eval,Act.put,go_sem,k4,k11]
   case refine_18=>
    (with_reducible refine Ac (w1:=w') (f := 27) (args:=#[.pointer none,.agg #[.slice pa na ca],.slice pm nm cm,.slice ps ns cs]) ?_ ?_ ?_)
    .simp[Region.wanted,yielded,Act.put,go_sem]
    .simp[Act.eval,Act.put,go_sem]
    .refine(Sn (HFA.out.below hbx') (HSG.out.below hbx')).mono ?_;rintro en w9 ⟨rfl,hb⟩;exact⟨_,rfl,hb,rfl,Ae hbx' hb⟩
   case refine_19=>
    have k17:(sp 17)=.bool false:=(hdp 17 (mq (by kernel_rfl))).2
    with_reducible refine Ad ?_ ?_
    all_goals simp[Region.wanted,yielded,execOp,Act.eval,Act.put,go_sem,k17]
   case refine_22=>
    (with_reducible refine Ac (w1:=w') (f := 23) (args:=#[.pointer none]) ?_ ?_ ?_)
    .simp[Region.wanted,yielded,Act.put,go_sem]
    .simp[Act.eval,Act.put,go_sem]
    .refine(Qe (Q:=0) (g0:=.pointer none) (w:=w') (.inr ⟨rfl,rfl⟩) (by decide)).mono ?_;rintro en w9 ⟨rfl,hb⟩;exact⟨_,rfl,hb,rfl,Ae hbx' hb⟩
   case refine_23=>
    have k21:(sp 21)=.int .i64 0:=(hdp 21 (mq (by kernel_rfl))).2
    with_reducible refine Ad ?_ ?_
    all_goals simp[Region.wanted,yielded,execOp,Act.eval,Act.put,go_sem,k21]
   all_goals ((with_reducible refine Ad ?_ ?_);all_goals first|(simp only[Region.wanted];done)|simp[Region.wanted,yielded,execOp,Act.eval,Act.put,go_sem])
  .intro sp w9 hsp hb;have HBf:=Ab (Ae HB.out hb);clear hsp hb;simp only[An,Nat.reduceAdd];generalize sp 4=y4,sp 6=y6,sp 8=y8,sp 11=y11,sp 17=y17,sp 21=y21 at *
   go_simp
   go_wp2;go_ret;exact⟨rfl,HBf.out⟩
end Go.Proofs.YtokhckjemidbpaaGreatDoor
