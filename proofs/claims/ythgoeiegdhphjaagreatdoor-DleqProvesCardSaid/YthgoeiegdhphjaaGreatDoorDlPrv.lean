/- DleqProves, walked: any claim and its proof are the document's, or refused as it says. -/
import Derived.Test.YthgoeiegdhphjaaGreatDoorDlX
import Derived.Test.YthgoeiegdhphjaaGreatDoorDlT
set_option maxRecDepth 1000000
set_option maxHeartbeats 16000000
set_option linter.all false
namespace Go.Proofs.YthgoeiegdhphjaaGreatDoor
open Go Go.RowKit Go.Proofs.YthgoeiegdhphjaaGreatDoor.Flow
theorem Vs {w:World}{v:Value}{e N:Nat}(h:Fit e N v w)(hz:N=0) :
  Calls Tryz.prog 25 #[v] w fun en w'=>∃x,en=.returned x/\x=.bool true/\Below w.heap.size w w':=by
 refine(Sm h).mono ?_;rintro en w' ⟨x,rfl,rfl,hb⟩;exact⟨_,rfl,by rw[decide_eq_true hz],hb⟩
def jV (A B Y Z:Nat)(SB:List Nat)(v:Value)(w:World):Prop:=∃c u,v=.tuple #[c,u]/\Uv A B Y Z c w/\Bh 0 SB u w
theorem jV.kt {B0 A B Y Z:Nat}{SB:List Nat}{v:Value}{w w':World}(h:jV A B Y Z SB v w)(k:KT 87 B0 w w'):jV A B Y Z SB v w':=let ⟨c,u,h1,h2,h3⟩:=h;⟨c,u,h1,h2.kt k,h3.kt k⟩
theorem Ud (w:World)(hr:Tabs w)(A0:Int)(a:Nat)(ha:rV a)(d:Nat)(hd:rV d)(x:Nat)(hx:rV x)(raw:Bool)(pm:Option Addr)(nm cm:Nat)(msg:List Nat)(hm:Aq w ⟨pm,nm,cm,msg⟩)(hzm:pm=none->cm=0) :
  Calls Tryz.prog 10 #[.int .i64 A0,.int .u64 (a:Nat),.int .u64 (d:Nat),.int .u64 (x:Nat),.bool raw,.slice pm nm cm] w fun e w'=>e=.returned (.bool true)/\Below w.heap.size w w':=by
 have HLI:=Ab Vg;have HT0:=Ab hr;have HM0:=Ab hm;have HZM:=Ab hzm;have Hal:Aa (a<18446744073709551616):=⟨ha⟩
 have Hdl:Aa (d<18446744073709551616):=⟨hd⟩
 have Hxl:Aa (x<18446744073709551616):=⟨hx⟩
 have hcap:nm<=cm:=hm.row.cap;have hmax:cm<=9223372036854775807:=hm.row.max;obtain⟨i,hi⟩:∃i,((IntKind.u64.wrap A0)%3).toNat=i:=⟨_,rfl⟩
 have HI3:Aa (i<3):=⟨by rw[<-hi];exact mN A0⟩
 have HI:=Ab hi;clear hr hi hm ha hd hx hzm;go_enter Tryz.func10,Tryz.ntmps10
 go_wp2_with fail
 refine(HLI.out w HT0.out).mono ?_;rintro en w1 ⟨rfl,b1⟩;have B1:=Ab b1;clear b1
 by_cases hn3:300<nm
 .have hn3':(300:Int)<nm:=by omega
  go_wp2_with fail
  refine(HLI.out w1 (HT0.out.below B1.out HT0.out.size)).mono ?_;rintro en w2 ⟨rfl,b2⟩;have B2:=Ab (Ae B1.out b2);clear b2;go_wp2;go_ret;exact⟨rfl,B2.out⟩
 have hn3':¬(300:Int)<nm:=by omega
 have HNM:Aa (nm<=1000):=⟨by omega⟩
 have HNM9:Aa (nm<=900):=⟨by omega⟩
 go_wp2_with fail
 refine(Nm w1 A0 (HT0.out.below B1.out HT0.out.size)).mono ?_;rintro en w2 ⟨b,rfl,hg2,b2⟩;rw[HI.out]at hg2
 obtain⟨P,hP⟩:∃P,gP i=P:=⟨_,rfl⟩
 obtain⟨Q,hQ⟩:∃P,gQ i=P:=⟨_,rfl⟩
 obtain⟨G,hG⟩:∃P,gG i=P:=⟨_,rfl⟩
 obtain⟨H,hH⟩:∃P,gH i=P:=⟨_,rfl⟩
 have HP2:Aa (2<=P/\2<=Q/\G^Q%P=1):=⟨by rw[<-hP,<-hQ,<-hG];exact⟨rH i HI3.out,mU i HI3.out,Qc i HI3.out⟩⟩
 have HPf:Aa (Ak P<=16):=⟨by rw[<-hP];exact Yf i HI3.out⟩
 have HQf:Aa (Ak Q<=16):=⟨by rw[<-hQ];exact dU i HI3.out⟩
 rw[hP,hQ,hG,hH]at hg2
 have HPL:Aa (P<Au 33):=⟨hg2.lims.2.1⟩
 have HG:=Ab hg2;have hbb:=Ae B1.out b2;have HT:=Ab (HT0.out.below hbb HT0.out.size);have HM:=Ab (HM0.out.below hbb);have HB:=Ab hbb;clear hg2 b2 hbb hP hQ hG hH B1
 go_wp2_with fail
 refine(Zt HG.out).mono ?_;rintro en w3 ⟨_,rfl,hv,hb⟩;obtain⟨p0,n0,c0,p1,n1,c1,p2,n2,c2,p3,n3,c3,rfl,h0,h1,h2,h3⟩:=hv.ex;have hb2:Below w3.heap.size w3 (w3.alloc (.cells #[.slice p0 n0 c0,.slice p1 n1 c1,.slice p2 n2 c2,.slice p3 n3 c3] 30)):=Bw;have hx8:=Cp.made 30 w3 (.slice p0 n0 c0) (.slice p1 n1 c1) (.slice p2 n2 c2) (.slice p3 n3 c3);obtain⟨b14,hb14⟩:∃b,w3.heap.size=b:=⟨_,rfl⟩
 obtain⟨w4,hw4⟩:∃W,w3.alloc (.cells #[.slice p0 n0 c0,.slice p1 n1 c1,.slice p2 n2 c2,.slice p3 n3 c3] 30)=W:=⟨_,rfl⟩
 rw[hw4]at hb2 hx8
 rw[hb14]at hx8
 have HX14:=Ab hx8;have HV:Aa (Df P Q G H (.agg #[.slice p0 n0 c0,.slice p1 n1 c1,.slice p2 n2 c2,.slice p3 n3 c3]) w4):=⟨⟨p0,n0,c0,p1,n1,c1,p2,n2,c2,p3,n3,c3,rfl,h0.below hb2,h1.below hb2,h2.below hb2,h3.below hb2⟩⟩
 have hbb:=Ae hb hb2;replace HG:=Ab (HG.out.below hbb);replace HT:=Ab (HT.out.below hbb HT.out.size);replace HM:=Ab (HM.out.below hbb);replace HB:=Ab (Ae HB.out hbb);clear hv h0 h1 h2 h3 hb hb2 hx8 hbb
 go_wp2_with fail
 clear hw4 hb14;refine(Rb raw HG.out Hal.out).mono ?_;rintro en w5 ⟨_,rfl,⟨pa,na,ca,rfl,h,l⟩,hb⟩;obtain⟨AA,hAA⟩:∃N,lR raw P G a=N:=⟨_,rfl⟩
 rw[hAA]at h l
 clear hAA;replace HG:=Ab (HG.out.below hb);replace HT:=Ab (HT.out.below hb HT.out.size);replace HM:=Ab (HM.out.below hb);replace HB:=Ab (Ae HB.out hb);replace HX14:=Ab (HX14.out.below hb HX14.out.lt);replace HV:=Ab (HV.out.below hb);have HFa:=Ab (Fit.of h l);clear h l hb
 go_wp2_with fail
 refine(Rb false HG.out Hdl.out).mono ?_;rintro en w6 ⟨_,rfl,⟨pb,nb,cb,rfl,h,l⟩,hb⟩;obtain⟨BB,hBB⟩:∃N,lR false P G d=N:=⟨_,rfl⟩
 have HMB:Aa (Cj P Q BB):=⟨by rw[<-hBB];exact Sg HP2.out.1 (by have:=HP2.out;omega) HP2.out.2.2 d⟩
 rw[hBB]at h l
 clear hBB;replace HG:=Ab (HG.out.below hb);replace HT:=Ab (HT.out.below hb HT.out.size);replace HM:=Ab (HM.out.below hb);replace HB:=Ab (Ae HB.out hb);replace HX14:=Ab (HX14.out.below hb HX14.out.lt);replace HV:=Ab (HV.out.below hb);replace HFa:=Ab (HFa.out.below hb);have HFb:=Ab (Fit.of h l);clear h l hb;have hx67:=eS.mk2 w6 (.slice pa na ca) (.slice pb nb cb);obtain⟨w8,hw8⟩:∃W,(w6.alloc (.cells #[.slice pa na ca] 36)).alloc (.cells #[.slice pb nb cb] 36)=W:=⟨_,rfl⟩
 obtain⟨b15,hb15⟩:∃b,w6.heap.size=b:=⟨_,rfl⟩
 rw[hw8]at hx67
 have hb:=hx67.bel;have hxp:=hx67.b0;have hxq:=hx67.b1;rw[hb15]at hxp hxq
 have HXP:=Ab hxp;have HXQ:=Ab hxq;replace HG:=Ab (HG.out.below hb);replace HT:=Ab (HT.out.below hb HT.out.size);replace HM:=Ab (HM.out.below hb);replace HB:=Ab (Ae HB.out hb);replace HX14:=Ab (HX14.out.below hb HX14.out.lt);replace HV:=Ab (HV.out.below hb);replace HFa:=Ab (HFa.out.below hb);replace HFb:=Ab (HFb.out.below hb);clear hx67 hb hxp hxq;obtain⟨A1,B1,Y1,Z1,SB,E,hsp⟩:=Sj.any P Q AA BB x msg;obtain⟨L,hL⟩:∃L,SB.length=L:=⟨_,rfl⟩
 have HSP:=Ab hsp;have HLE:=Ab hL;have HS8b:Aa (Ay SB):=⟨by
  by_cases h:x<Q/\Cj P Q AA/\Cj P Q BB
  .rw[(hsp.1 h).2.2.2.2.1];exact Ws _ _ _ _ _ _
  .rw[(hsp.2 h).2.2.2.2.1];exact fun z hz=>by cases hz⟩
 clear hsp hL;go_wp2;clear hw8 hb15;refine Al (by kernel_rfl) (by kernel_rfl)
  [some (.pointer (some ⟨b,0,none⟩)),some (.agg #[.slice pa na ca]),some (.agg #[.slice pb nb cb]),some (.int .u64 (x:Nat)),none,some (.slice pm nm cm),none,none,none,none,some (.int .i64 E),none,none,none,some (.int .i64 E)]
  [false,false,false,false,true,false,true,true,true,true,false,true,true,true,false] rfl
  (fun wA wB=>KT 83 (w8.heap.size) wA wB)
  (fun D sp w'=>RG (w8.heap.size) w8 [] w'/\Ni (D 11) (D 12) (sp 11) w8.heap.size (z4 83) (oK 83 A1 B1 Y1 Z1) w')
  (fun i v w'=>match i with
   | 4=>Fit 2 (x) v w'
   | 6=>Rv A1 B1 Y1 Z1 SB E v w'
   | 7=>Rv A1 B1 Y1 Z1 SB E v w'
   | 8=>Zd A1 B1 Y1 Z1 v w'
   | 9=>Bh 0 SB v w'
   | 13=>Bh 0 SB v w'
   | _=>True)
  ?_ ⟨RG.start (Av _) (fun x hx=>by cases hx),Ni.start (Av _)⟩ ?_ ?_
 .intro i v wA wB hf hb;split at hf
  .exact hf.kt hb
  .exact hf.kt hb
  .exact hf.kt hb
  .exact hf.kt hb
  .exact hf.kt hb
  .exact hf.kt hb
  .trivial
 .simp only[Bb,Nat.reduceAdd];refine⟨?_,?_,?_,?_,?_,?_,?_,?_,?_,?_,?_,?_,?_,?_,?_,trivial⟩
  all_goals intro D sp w' hD hW hdp hg
  case refine_2=>
   have c0:=(HXP.out.below hg.1.keep.bel HXP.out.lt).cell
   with_reducible refine Ad ?_ ?_
   all_goals simp[Region.wanted,yielded,execOp,Act.eval,Act.put,go_sem,c0]
  case refine_3=>
   have c0:=(HXQ.out.below hg.1.keep.bel HXQ.out.lt).cell
   with_reducible refine Ad ?_ ?_
   all_goals simp[Region.wanted,yielded,execOp,Act.eval,Act.put,go_sem,c0]
  case refine_5=>
   (with_reducible refine Ac (w1:=w') (f := 20) (args:=#[.int .u64 (x:Nat)]) ?_ ?_ ?_)
   .simp[Region.wanted,yielded,Act.put,go_sem]
   .simp[Act.eval,Act.put,go_sem]
   .refine(Dv w' Hxl.out).mono ?_;rintro en w9 ⟨u,rfl,hu,hb⟩;exact⟨u,rfl,KT.of hb hg.1.base,hu,hg.1.later hb,by simpa [upd]using hg.2.later hb (fun o h=>h.below hb)⟩
  case refine_7=>
   have k4:Fit 2 (x) (sp 4) w':=(hdp 4 (mq (by kernel_rfl))).2
   (with_reducible refine Ac (w1:=w') (f := 55) (args:=#[.pointer (some ⟨b,0,none⟩),.agg #[.slice pa na ca],.agg #[.slice pb nb cb],sp 4,.slice pm nm cm]) ?_ ?_ ?_)
   .simp[Region.wanted,yielded,Act.put,go_sem]
   .simp[Act.eval,Act.put,go_sem]
   .refine(gT (HG.out.below hg.1.keep.bel) (HT.out.below hg.1.keep.bel HT.out.size) (HFa.out.below hg.1.keep.bel) (HFb.out.below hg.1.keep.bel) k4 (by decide) HPf.out HQf.out (HM.out.below hg.1.keep.bel) HZM.out HNM.out HSP.out).mono ?_;rintro en w9 ⟨u,rfl,hu,hb⟩;exact⟨u,rfl,KT.of hb hg.1.base,hu,hg.1.later hb,by simpa [upd]using hg.2.later hb (fun o h=>h.below hb)⟩
  case refine_8=>
   have k6:Rv A1 B1 Y1 Z1 SB E (sp 6) w':=(hdp 6 (mq (by kernel_rfl))).2
   (with_reducible refine Af (w1:=w') (v:=sp 6) ?_ ?_ ?_)
   .simp[Region.wanted,yielded,Act.put,go_sem]
   .simp[execOp,Act.eval,Act.put,go_sem]
   .exact⟨KT.same _ _ _,k6,hg.1,by simpa [upd]using hg.2⟩
  case refine_9=>
   have hx:∃c u,sp 7=.tuple #[c,u,.int .i64 E]/\Zd A1 B1 Y1 Z1 c w'/\Bh 0 SB u w':=(hdp 7 (mq (by kernel_rfl))).2
   (with_reducible refine Aw hx fun c hx1=>Aw hx1 fun u hx2=>?_)
   have h1:=hx2.1
   (with_reducible refine Af (w1:=w') (v:=c) ?_ ?_ ?_)
   .simp only[Region.wanted]
   .simp[execOp,Act.eval,Act.put,go_sem,h1]
   .exact⟨KT.same _ _ _,hx2.2.1,hg.1,by simpa [upd]using hg.2⟩
  case refine_10=>
   have hx:∃c u,sp 7=.tuple #[c,u,.int .i64 E]/\Zd A1 B1 Y1 Z1 c w'/\Bh 0 SB u w':=(hdp 7 (mq (by kernel_rfl))).2
   (with_reducible refine Aw hx fun c hx1=>Aw hx1 fun u hx2=>?_)
   have h1:=hx2.1
   (with_reducible refine Af (w1:=w') (v:=u) ?_ ?_ ?_)
   .simp only[Region.wanted]
   .simp[execOp,Act.eval,Act.put,go_sem,h1]
   .exact⟨KT.same _ _ _,hx2.2.2,hg.1,by simpa [upd]using hg.2⟩
  case refine_11=>
   have hx:∃c u,sp 7=.tuple #[c,u,.int .i64 E]/\Zd A1 B1 Y1 Z1 c w'/\Bh 0 SB u w':=(hdp 7 (mq (by kernel_rfl))).2
   (with_reducible refine Aw hx fun c hx1=>Aw hx1 fun u hx2=>?_)
   have h1:=hx2.1
   with_reducible refine Ad ?_ ?_
   all_goals simp[Region.wanted,yielded,execOp,Act.eval,Act.put,go_sem,h1]
  case refine_12=>
   have h9:D 12=false:=hW 12 (mq (by kernel_rfl));rw[hD,h9]at hg
   (with_reducible refine Af (w1:=w'.alloc (.cells #[.slice none 0 0,.slice none 0 0,.slice none 0 0,.slice none 0 0] 83)) (v:=.pointer (some ⟨w'.heap.size,0,none⟩)) ?_ ?_ ?_)
   .simp only[Region.wanted]
   .simp[execOp,go_sem]
   .have hb:Below w'.heap.size w' (w'.alloc (.cells #[.slice none 0 0,.slice none 0 0,.slice none 0 0,.slice none 0 0] 83)):=Bw;refine⟨KT.of hb hg.1.base,trivial,hg.1.later hb,?_⟩;have h8:Ni true false _ _ (z4 83) _ _:=Ni.made hg.2;simpa [upd,h9]using h8
  case refine_13=>
   have hx:∃xa xb xy xz:Option Addr×Nat×Nat,sp 8=.agg #[.slice xa.1 xa.2.1 xa.2.2,.slice xb.1 xb.2.1 xb.2.2,.slice xy.1 xy.2.1 xy.2.2,.slice xz.1 xz.2.1 xz.2.2]/\AtC A1 B1 Y1 Z1 xa xb xy xz w':=(hdp 8 (mq (by kernel_rfl))).2
   (with_reducible refine Aw hx fun xa hx1=>Aw hx1 fun xb hx2=>Aw hx2 fun xy hx3=>Aw hx3 fun xz hx4=>?_)
   have h1:=hx4.1;have h9:D 11=true:=(hdp 11 (mq (by kernel_rfl))).1;rw[hD,h9]at hg
   have hm:=hg.2.2 rfl
   (with_reducible refine Aw hm fun bq hm1=>?_)
   have h3:=hm1.1;have h6:w'.heap[bq]? = some (.cells #[.slice none 0 0,.slice none 0 0,.slice none 0 0,.slice none 0 0] 83 (0,0)):=hm1.2.2.1 rfl;have hp:=put4 (u0:=.slice xa.1 xa.2.1 xa.2.2) (u1:=.slice xb.1 xb.2.1 xb.2.2) (u2:=.slice xy.1 xy.2.1 xy.2.2) (u3:=.slice xz.1 xz.2.1 xz.2.2) h6;have hs:=Jd (none,0,0) (none,0,0) (none,0,0) (none,0,0);have hkt:=hp.kt h6 hs hm1.2.1;have g0:=cells4 h6
   (with_reducible refine An (w1:=Ja w' bq (.slice xa.1 xa.2.1 xa.2.2) (.slice xb.1 xb.2.1 xb.2.2) (.slice xy.1 xy.2.1 xy.2.2) (.slice xz.1 xz.2.1 xz.2.2)) ?_ ?_ ?_)
   .simp only[Region.wanted]
   .simp[execOp,Act.eval,Act.put,go_sem,h1,h3,g0.1.1,g0.1.2.1,g0.1.2.2.1,g0.1.2.2.2,g0.2.1,g0.2.2.1,g0.2.2.2.1,g0.2.2.2.2,Ja]
   .refine⟨hkt,trivial,hg.1.putO hp h6 hs hm1.2.1 (fun x hx=>by cases hx),?_⟩;have h8:Ni true true (sp 11) _ (z4 83) (oK 83 A1 B1 Y1 Z1) _:=⟨by rw[hp.size];exact hg.2.1,fun _=>⟨bq,h3,hm1.2.1,Oh.done hp.new ⟨xa,xb,xy,xz,rfl,hx4.2.kt hkt⟩⟩⟩
    simpa [upd,h9]using h8
  case refine_14=>
   have k9:Bh 0 SB (sp 9) w':=(hdp 9 (mq (by kernel_rfl))).2
   (with_reducible refine Af (w1:=w') (v:=sp 9) ?_ ?_ ?_)
   .simp[Region.wanted,yielded,Act.put,go_sem]
   .simp[execOp,Act.eval,Act.put,go_sem]
   .exact⟨KT.same _ _ _,k9,hg.1,by simpa [upd]using hg.2⟩
  all_goals ((with_reducible refine Ad ?_ ?_);all_goals first|(simp only[Region.wanted];done)|simp[Region.wanted,yielded,execOp,Act.eval,Act.put,go_sem])
 .intro sp w9 hsp hk;obtain⟨hk1,_,hk2⟩:=hk;obtain⟨b17,e17,_,hst⟩:=hk2 rfl;obtain⟨_,hbox,xa,xb,xy,xz,rfl,hat⟩:=hst.2 rfl;obtain⟨pf,cf,ef,hpf,_⟩:=(show Bh 0 SB (sp 13) w9 from hsp 13 rfl).part HS8b.out;rw[HLE.out]at ef hpf
  have hb:=hk1.keep.bel;have HCB:=Ab hbox;have HCA:=Ab hat;have HPB:=Ab hpf;replace HG:=Ab (HG.out.below hb);replace HT:=Ab (HT.out.below hb HT.out.size);replace HM:=Ab (HM.out.below hb);replace HB:=Ab (Ae HB.out hb);replace HX14:=Ab (HX14.out.below hb HX14.out.lt);replace HV:=Ab (HV.out.below hb);replace HXP:=Ab (HXP.out.below hb HXP.out.lt);replace HXQ:=Ab (HXQ.out.below hb HXQ.out.lt);replace HFa:=Ab (HFa.out.below hb);replace HFb:=Ab (HFb.out.below hb);clear hsp hk1 hk2 hst hbox hat hpf hb;simp only[Am,Nat.reduceAdd];rw[e17,ef];clear e17 ef;generalize sp 4=y4,sp 6=y6,sp 7=y7,sp 8=y8,sp 9=y9,sp 12=y12 at *
  go_simp
  go_wp2;refine Al (by kernel_rfl) (by kernel_rfl)
   [some (.agg #[.slice pa na ca]),some (.agg #[.slice pb nb cb]),some (.int .u64 (x:Nat)),none,some (.slice pm nm cm),none,none,none,none,some (.int .i64 1),none,none,none,some (.int .i64 1)]
   [false,false,false,true,false,true,true,true,true,false,true,true,true,false] rfl
   (fun wA wB=>KT 83 (w9.heap.size) wA wB)
   (fun D sp w'=>RG (w9.heap.size) w9 [] w'/\Ni (D 10) (D 11) (sp 10) w9.heap.size (z4 83) (oK 83 0 0 0 0) w')
   (fun i v w'=>match i with
    | 3=>Fit 2 (x) v w'
    | 5=>Rv 0 0 0 0 [] 1 v w'
    | 6=>Rv 0 0 0 0 [] 1 v w'
    | 7=>Zd 0 0 0 0 v w'
    | 8=>Bh 0 [] v w'
    | 12=>Bh 0 [] v w'
    | _=>True)
   ?_ ⟨RG.start (Av _) (fun x hx=>by cases hx),Ni.start (Av _)⟩ ?_ ?_
  .intro i v wA wB hf hb;split at hf
   .exact hf.kt hb
   .exact hf.kt hb
   .exact hf.kt hb
   .exact hf.kt hb
   .exact hf.kt hb
   .exact hf.kt hb
   .trivial
  .simp only[Bb,Nat.reduceAdd];refine⟨?_,?_,?_,?_,?_,?_,?_,?_,?_,?_,?_,?_,?_,?_,trivial⟩
   all_goals intro D sp w' hD hW hdp hg
   case refine_1=>
    have c0:=(HXP.out.below hg.1.keep.bel HXP.out.lt).cell
    with_reducible refine Ad ?_ ?_
    all_goals simp[Region.wanted,yielded,execOp,Act.eval,Act.put,go_sem,c0]
   case refine_2=>
    have c0:=(HXQ.out.below hg.1.keep.bel HXQ.out.lt).cell
    with_reducible refine Ad ?_ ?_
    all_goals simp[Region.wanted,yielded,execOp,Act.eval,Act.put,go_sem,c0]
   case refine_4=>
    (with_reducible refine Ac (w1:=w') (f := 20) (args:=#[.int .u64 (x:Nat)]) ?_ ?_ ?_)
    .simp[Region.wanted,yielded,Act.put,go_sem]
    .simp[Act.eval,Act.put,go_sem]
    .refine(Dv w' Hxl.out).mono ?_;rintro en w9 ⟨u,rfl,hu,hb⟩;exact⟨u,rfl,KT.of hb hg.1.base,hu,hg.1.later hb,by simpa [upd]using hg.2.later hb (fun o h=>h.below hb)⟩
   case refine_6=>
    have k3:Fit 2 (x) (sp 3) w':=(hdp 3 (mq (by kernel_rfl))).2
    (with_reducible refine Ac (w1:=w') (f := 55) (args:=#[.pointer none,.agg #[.slice pa na ca],.agg #[.slice pb nb cb],sp 3,.slice pm nm cm]) ?_ ?_ ?_)
    .simp[Region.wanted,yielded,Act.put,go_sem]
    .simp[Act.eval,Act.put,go_sem]
    .refine(gS (HFa.out.below hg.1.keep.bel) (HFb.out.below hg.1.keep.bel) k3 (by decide)).mono ?_;rintro en w9 ⟨u,rfl,hu,hb⟩;exact⟨u,rfl,KT.of hb hg.1.base,hu,hg.1.later hb,by simpa [upd]using hg.2.later hb (fun o h=>h.below hb)⟩
   case refine_7=>
    have k5:Rv 0 0 0 0 [] 1 (sp 5) w':=(hdp 5 (mq (by kernel_rfl))).2
    (with_reducible refine Af (w1:=w') (v:=sp 5) ?_ ?_ ?_)
    .simp[Region.wanted,yielded,Act.put,go_sem]
    .simp[execOp,Act.eval,Act.put,go_sem]
    .exact⟨KT.same _ _ _,k5,hg.1,by simpa [upd]using hg.2⟩
   case refine_8=>
    have hx:∃c u,sp 6=.tuple #[c,u,.int .i64 1]/\Zd 0 0 0 0 c w'/\Bh 0 [] u w':=(hdp 6 (mq (by kernel_rfl))).2
    (with_reducible refine Aw hx fun c hx1=>Aw hx1 fun u hx2=>?_)
    have h1:=hx2.1
    (with_reducible refine Af (w1:=w') (v:=c) ?_ ?_ ?_)
    .simp only[Region.wanted]
    .simp[execOp,Act.eval,Act.put,go_sem,h1]
    .exact⟨KT.same _ _ _,hx2.2.1,hg.1,by simpa [upd]using hg.2⟩
   case refine_9=>
    have hx:∃c u,sp 6=.tuple #[c,u,.int .i64 1]/\Zd 0 0 0 0 c w'/\Bh 0 [] u w':=(hdp 6 (mq (by kernel_rfl))).2
    (with_reducible refine Aw hx fun c hx1=>Aw hx1 fun u hx2=>?_)
    have h1:=hx2.1
    (with_reducible refine Af (w1:=w') (v:=u) ?_ ?_ ?_)
    .simp only[Region.wanted]
    .simp[execOp,Act.eval,Act.put,go_sem,h1]
    .exact⟨KT.same _ _ _,hx2.2.2,hg.1,by simpa [upd]using hg.2⟩
   case refine_10=>
    have hx:∃c u,sp 6=.tuple #[c,u,.int .i64 1]/\Zd 0 0 0 0 c w'/\Bh 0 [] u w':=(hdp 6 (mq (by kernel_rfl))).2
    (with_reducible refine Aw hx fun c hx1=>Aw hx1 fun u hx2=>?_)
    have h1:=hx2.1
    with_reducible refine Ad ?_ ?_
    all_goals simp[Region.wanted,yielded,execOp,Act.eval,Act.put,go_sem,h1]
   case refine_11=>
    have h9:D 11=false:=hW 11 (mq (by kernel_rfl));rw[hD,h9]at hg
    (with_reducible refine Af (w1:=w'.alloc (.cells #[.slice none 0 0,.slice none 0 0,.slice none 0 0,.slice none 0 0] 83)) (v:=.pointer (some ⟨w'.heap.size,0,none⟩)) ?_ ?_ ?_)
    .simp only[Region.wanted]
    .simp[execOp,go_sem]
    .have hb:Below w'.heap.size w' (w'.alloc (.cells #[.slice none 0 0,.slice none 0 0,.slice none 0 0,.slice none 0 0] 83)):=Bw;refine⟨KT.of hb hg.1.base,trivial,hg.1.later hb,?_⟩;have h8:Ni true false _ _ (z4 83) _ _:=Ni.made hg.2;simpa [upd,h9]using h8
   case refine_12=>
    have hx:∃xa xb xy xz:Option Addr×Nat×Nat,sp 7=.agg #[.slice xa.1 xa.2.1 xa.2.2,.slice xb.1 xb.2.1 xb.2.2,.slice xy.1 xy.2.1 xy.2.2,.slice xz.1 xz.2.1 xz.2.2]/\AtC 0 0 0 0 xa xb xy xz w':=(hdp 7 (mq (by kernel_rfl))).2
    (with_reducible refine Aw hx fun xa hx1=>Aw hx1 fun xb hx2=>Aw hx2 fun xy hx3=>Aw hx3 fun xz hx4=>?_)
    have h1:=hx4.1;have h9:D 10=true:=(hdp 10 (mq (by kernel_rfl))).1;rw[hD,h9]at hg
    have hm:=hg.2.2 rfl
    (with_reducible refine Aw hm fun bq hm1=>?_)
    have h3:=hm1.1;have h6:w'.heap[bq]? = some (.cells #[.slice none 0 0,.slice none 0 0,.slice none 0 0,.slice none 0 0] 83 (0,0)):=hm1.2.2.1 rfl;have hp:=put4 (u0:=.slice xa.1 xa.2.1 xa.2.2) (u1:=.slice xb.1 xb.2.1 xb.2.2) (u2:=.slice xy.1 xy.2.1 xy.2.2) (u3:=.slice xz.1 xz.2.1 xz.2.2) h6;have hs:=Jd (none,0,0) (none,0,0) (none,0,0) (none,0,0);have hkt:=hp.kt h6 hs hm1.2.1;have g0:=cells4 h6
    (with_reducible refine An (w1:=Ja w' bq (.slice xa.1 xa.2.1 xa.2.2) (.slice xb.1 xb.2.1 xb.2.2) (.slice xy.1 xy.2.1 xy.2.2) (.slice xz.1 xz.2.1 xz.2.2)) ?_ ?_ ?_)
    .simp only[Region.wanted]
    .simp[execOp,Act.eval,Act.put,go_sem,h1,h3,g0.1.1,g0.1.2.1,g0.1.2.2.1,g0.1.2.2.2,g0.2.1,g0.2.2.1,g0.2.2.2.1,g0.2.2.2.2,Ja]
    .refine⟨hkt,trivial,hg.1.putO hp h6 hs hm1.2.1 (fun x hx=>by cases hx),?_⟩;have h8:Ni true true (sp 10) _ (z4 83) (oK 83 0 0 0 0) _:=⟨by rw[hp.size];exact hg.2.1,fun _=>⟨bq,h3,hm1.2.1,Oh.done hp.new ⟨xa,xb,xy,xz,rfl,hx4.2.kt hkt⟩⟩⟩
     simpa [upd,h9]using h8
   case refine_13=>
    have k8:Bh 0 [] (sp 8) w':=(hdp 8 (mq (by kernel_rfl))).2
    (with_reducible refine Af (w1:=w') (v:=sp 8) ?_ ?_ ?_)
    .simp[Region.wanted,yielded,Act.put,go_sem]
    .simp[execOp,Act.eval,Act.put,go_sem]
    .exact⟨KT.same _ _ _,k8,hg.1,by simpa [upd]using hg.2⟩
   all_goals ((with_reducible refine Ad ?_ ?_);all_goals first|(simp only[Region.wanted];done)|simp[Region.wanted,yielded,execOp,Act.eval,Act.put,go_sem])
  .intro sp w10 hsp hk;have hb:=hk.1.keep.bel;have HCB_:_:=(hb.block _ (Ep HCB.out).1).trans HCB.out;clear HCB;have HCB:=Ab HCB_;clear HCB_;replace HG:=Ab (HG.out.below hb);replace HT:=Ab (HT.out.below hb HT.out.size);replace HM:=Ab (HM.out.below hb);replace HB:=Ab (Ae HB.out hb);replace HX14:=Ab (HX14.out.below hb HX14.out.lt);replace HV:=Ab (HV.out.below hb);replace HXP:=Ab (HXP.out.below hb HXP.out.lt);replace HXQ:=Ab (HXQ.out.below hb HXQ.out.lt);replace HFa:=Ab (HFa.out.below hb);replace HFb:=Ab (HFb.out.below hb);replace HCA:=Ab (HCA.out.below hb);replace HPB:=Ab (HPB.out.below hb);clear hsp hk hb;simp only[Am,Nat.reduceAdd];generalize sp 3=y3,sp 5=y5,sp 6=y6,sp 7=y7,sp 8=y8,sp 10=y10,sp 11=y11,sp 12=y12 at *
   go_simp
   have c1:=HXP.out.cell
   go_wp2_with fail
   refine(Rg HG.out HFa.out (by decide)).mono ?_;rintro en w11 ⟨rfl,hb⟩;clear c1;have HCB_:_:=(hb.block _ (Ep HCB.out).1).trans HCB.out;clear HCB;have HCB:=Ab HCB_;clear HCB_;replace HG:=Ab (HG.out.below hb);replace HT:=Ab (HT.out.below hb HT.out.size);replace HM:=Ab (HM.out.below hb);replace HB:=Ab (Ae HB.out hb);replace HX14:=Ab (HX14.out.below hb HX14.out.lt);replace HV:=Ab (HV.out.below hb);replace HXP:=Ab (HXP.out.below hb HXP.out.lt);replace HXQ:=Ab (HXQ.out.below hb HXQ.out.lt);replace HFa:=Ab (HFa.out.below hb);replace HFb:=Ab (HFb.out.below hb);replace HCA:=Ab (HCA.out.below hb);replace HPB:=Ab (HPB.out.below hb);clear hb
   by_cases hM:Cj P Q AA
   rotate_left
   .have hMf:decide (0<AA/\AA<P/\AA^Q%P=1)=false:=decide_eq_false hM;rw[hMf];obtain⟨rfl,rfl,rfl,rfl,rfl,rfl⟩:=HSP.out.2 (fun h=>hM h.2.1);have hL0:L=0:=HLE.out.symm;subst hL0;have g0:=(cells4 HCB.out).1;have e1:=g0.1;have HFA0:Aa (Fit 0 0 (.agg #[.slice xa.1 xa.2.1 xa.2.2]) w11):=⟨Fit.of HCA.out.1 (by decide)⟩
    clear g0
    go_wp2_with fail
    clear e1;refine(Vs HFA0.out rfl).mono ?_;rintro en w20 ⟨_,rfl,rfl,hb⟩;have HBf:=Ab (Ae HB.out hb);clear hb;go_wp2;go_ret;exact⟨rfl,HBf.out⟩
   have hMt:decide (0<AA/\AA<P/\AA^Q%P=1)=true:=decide_eq_true hM;rw[hMt];have HMA:Aa (Cj P Q AA):=⟨hM⟩
   clear hM hMt
   go_wp2_with fail
   refine(Dv (n:=x) w11 Hxl.out).mono ?_;rintro en w12 ⟨x12,rfl,h12,hb⟩;have H12:=Ab h12;have HCB_:_:=(hb.block _ (Ep HCB.out).1).trans HCB.out;clear HCB;have HCB:=Ab HCB_;clear HCB_;replace HG:=Ab (HG.out.below hb);replace HT:=Ab (HT.out.below hb HT.out.size);replace HM:=Ab (HM.out.below hb);replace HB:=Ab (Ae HB.out hb);replace HX14:=Ab (HX14.out.below hb HX14.out.lt);replace HV:=Ab (HV.out.below hb);replace HXP:=Ab (HXP.out.below hb HXP.out.lt);replace HXQ:=Ab (HXQ.out.below hb HXQ.out.lt);replace HFa:=Ab (HFa.out.below hb);replace HFb:=Ab (HFb.out.below hb);replace HCA:=Ab (HCA.out.below hb);replace HPB:=Ab (HPB.out.below hb);clear h12 hb
   go_wp2_with fail
   refine(Kw HG.out).mono ?_;rintro en w13 ⟨r,rfl,hr13,hb⟩;have HR13:=Ab hr13;have HCB_:_:=(hb.block _ (Ep HCB.out).1).trans HCB.out;clear HCB;have HCB:=Ab HCB_;clear HCB_;replace HG:=Ab (HG.out.below hb);replace HT:=Ab (HT.out.below hb HT.out.size);replace HM:=Ab (HM.out.below hb);replace HB:=Ab (Ae HB.out hb);replace HX14:=Ab (HX14.out.below hb HX14.out.lt);replace HV:=Ab (HV.out.below hb);replace HXP:=Ab (HXP.out.below hb HXP.out.lt);replace HXQ:=Ab (HXQ.out.below hb HXQ.out.lt);replace HFa:=Ab (HFa.out.below hb);replace HFb:=Ab (HFb.out.below hb);replace HCA:=Ab (HCA.out.below hb);replace HPB:=Ab (HPB.out.below hb);replace H12:=Ab (H12.out.below hb);clear hr13 hb
   go_wp2_with fail
   refine(Ee HR13.out).mono ?_;rintro en w14 ⟨x14,rfl,h14,hb⟩;have H14:=Ab h14;have HCB_:_:=(hb.block _ (Ep HCB.out).1).trans HCB.out;clear HCB;have HCB:=Ab HCB_;clear HCB_;replace HG:=Ab (HG.out.below hb);replace HT:=Ab (HT.out.below hb HT.out.size);replace HM:=Ab (HM.out.below hb);replace HB:=Ab (Ae HB.out hb);replace HX14:=Ab (HX14.out.below hb HX14.out.lt);replace HV:=Ab (HV.out.below hb);replace HXP:=Ab (HXP.out.below hb HXP.out.lt);replace HXQ:=Ab (HXQ.out.below hb HXQ.out.lt);replace HFa:=Ab (HFa.out.below hb);replace HFb:=Ab (HFb.out.below hb);replace HCA:=Ab (HCA.out.below hb);replace HPB:=Ab (HPB.out.below hb);replace H12:=Ab (H12.out.below hb);clear h14 hb HR13
   go_wp2_with fail
   refine(Pg H12.out H14.out (by decide) (by decide)).mono ?_;rintro en w15 ⟨_,rfl,rfl,hb⟩;have HCB_:_:=(hb.block _ (Ep HCB.out).1).trans HCB.out;clear HCB;have HCB:=Ab HCB_;clear HCB_;replace HG:=Ab (HG.out.below hb);replace HT:=Ab (HT.out.below hb HT.out.size);replace HM:=Ab (HM.out.below hb);replace HB:=Ab (Ae HB.out hb);replace HX14:=Ab (HX14.out.below hb HX14.out.lt);replace HV:=Ab (HV.out.below hb);replace HXP:=Ab (HXP.out.below hb HXP.out.lt);replace HXQ:=Ab (HXQ.out.below hb HXQ.out.lt);replace HFa:=Ab (HFa.out.below hb);replace HFb:=Ab (HFb.out.below hb);replace HCA:=Ab (HCA.out.below hb);replace HPB:=Ab (HPB.out.below hb);clear hb H12 H14
   by_cases hX:x<Q
   rotate_left
   .have hK:(0:Int)<=Bp x Q:=by unfold Bp;repeat (first|omega|split)
    obtain⟨rfl,rfl,rfl,rfl,rfl,rfl⟩:=HSP.out.2 (fun h=>hX h.1);have hL0:L=0:=HLE.out.symm;subst hL0;have g0:=(cells4 HCB.out).1;have e1:=g0.1;have HFA0:Aa (Fit 0 0 (.agg #[.slice xa.1 xa.2.1 xa.2.2]) w15):=⟨Fit.of HCA.out.1 (by decide)⟩
    clear g0
    go_wp2_with fail
    clear e1;refine(Vs HFA0.out rfl).mono ?_;rintro en w20 ⟨_,rfl,rfl,hb⟩;have HBf:=Ab (Ae HB.out hb);clear hb;go_wp2;go_ret;exact⟨rfl,HBf.out⟩
   have hK:¬(0:Int)<=Bp x Q:=by unfold Bp;repeat (first|omega|split)
   have HX:Aa (x<Q):=⟨hX⟩
   obtain⟨hA,hB,hY,hZ,hSB,hE⟩:=HSP.out.1 ⟨hX,HMA.out,HMB.out⟩;subst hA;subst hB;subst hE;have HYE:=Ab hY.symm;have HZE:=Ab hZ.symm;have HSE:=Ab hSB.symm;have HYl:Aa (Y1<Au 33):=⟨by rw[hY];exact Nat.lt_trans (Nat.mod_lt _ (by have:=HP2.out;omega)) HPL.out⟩
   have HZl:Aa (Z1<Au 33):=⟨by rw[hZ];exact Nat.lt_trans (Nat.mod_lt _ (by have:=HP2.out;omega)) HPL.out⟩
   clear hX hY hZ hSB;go_wp2;clear hK;refine Al (by kernel_rfl) (by kernel_rfl)
    [some (.agg #[.slice p0 n0 c0,.slice p1 n1 c1,.slice p2 n2 c2,.slice p3 n3 c3]),some (.agg #[.slice pa na ca]),none,some (.agg #[.slice pb nb cb]),none,some (.int .u64 (x:Nat)),none,none,some (.slice pm nm cm),none,none,none,none,none,none,none]
    [false,false,true,false,true,false,true,true,false,true,true,true,true,true,true,true] rfl
    (fun wA wB=>KT 87 (w15.heap.size) wA wB)
    (fun D sp w'=>RG (w15.heap.size) w15 [] w'/\Ni (D 13) (D 14) (sp 13) w15.heap.size (z4 87) (Uw A1 B1 Y1 Z1) w')
    (fun i v w'=>match i with
     | 2=>Ao A1 v w'
     | 4=>Ao B1 v w'
     | 6=>Fit 2 (x) v w'
     | 7=>Ao x v w'
     | 9=>jV A1 B1 Y1 Z1 SB v w'
     | 10=>jV A1 B1 Y1 Z1 SB v w'
     | 11=>Uv A1 B1 Y1 Z1 v w'
     | 12=>Bh 0 SB v w'
     | 15=>Bh 0 SB v w'
     | _=>True)
    ?_ ⟨RG.start (Av _) (fun x hx=>by cases hx),Ni.start (Av _)⟩ ?_ ?_
   .intro i v wA wB hf hb;split at hf
    .exact hf.kt hb
    .exact hf.kt hb
    .exact hf.kt hb
    .exact hf.kt hb
    .exact hf.kt hb
    .exact hf.kt hb
    .exact hf.kt hb
    .exact hf.kt hb
    .exact hf.kt hb
    .trivial
   .simp only[Bb,Nat.reduceAdd];refine⟨?_,?_,?_,?_,?_,?_,?_,?_,?_,?_,?_,?_,?_,?_,?_,?_,trivial⟩
    all_goals intro D sp w' hD hW hdp hg
    case refine_1=>
     have g4:=(cells4 (HX14.out.below hg.1.keep.bel HX14.out.lt).at_).1
     with_reducible refine Ad ?_ ?_
     all_goals simp[Region.wanted,yielded,execOp,Act.eval,Act.put,go_sem,g4.1,g4.2.1,g4.2.2.1,g4.2.2.2]
    case refine_2=>
     have c0:=(HXP.out.below hg.1.keep.bel HXP.out.lt).cell
     with_reducible refine Ad ?_ ?_
     all_goals simp[Region.wanted,yielded,execOp,Act.eval,Act.put,go_sem,c0]
    case refine_3=>
     (with_reducible refine Ac (w1:=w') (f := 45) (args:=#[.agg #[.slice pa na ca]]) ?_ ?_ ?_)
     .simp[Region.wanted,yielded,Act.put,go_sem]
     .simp[Act.eval,Act.put,go_sem]
     .refine(Gb (HFa.out.below hg.1.keep.bel) (by decide)).mono ?_;rintro en w9 ⟨u,rfl,hu,hb⟩;exact⟨u,rfl,KT.of hb hg.1.base,hu,hg.1.later hb,by simpa [upd]using hg.2.later hb (fun o h=>h.below hb)⟩
    case refine_4=>
     have c0:=(HXQ.out.below hg.1.keep.bel HXQ.out.lt).cell
     with_reducible refine Ad ?_ ?_
     all_goals simp[Region.wanted,yielded,execOp,Act.eval,Act.put,go_sem,c0]
    case refine_5=>
     (with_reducible refine Ac (w1:=w') (f := 45) (args:=#[.agg #[.slice pb nb cb]]) ?_ ?_ ?_)
     .simp[Region.wanted,yielded,Act.put,go_sem]
     .simp[Act.eval,Act.put,go_sem]
     .refine(Gb (HFb.out.below hg.1.keep.bel) (by decide)).mono ?_;rintro en w9 ⟨u,rfl,hu,hb⟩;exact⟨u,rfl,KT.of hb hg.1.base,hu,hg.1.later hb,by simpa [upd]using hg.2.later hb (fun o h=>h.below hb)⟩
    case refine_7=>
     (with_reducible refine Ac (w1:=w') (f := 20) (args:=#[.int .u64 (x:Nat)]) ?_ ?_ ?_)
     .simp[Region.wanted,yielded,Act.put,go_sem]
     .simp[Act.eval,Act.put,go_sem]
     .refine(Dv w' Hxl.out).mono ?_;rintro en w9 ⟨u,rfl,hu,hb⟩;exact⟨u,rfl,KT.of hb hg.1.base,hu,hg.1.later hb,by simpa [upd]using hg.2.later hb (fun o h=>h.below hb)⟩
    case refine_8=>
     have k6:Fit 2 (x) (sp 6) w':=(hdp 6 (mq (by kernel_rfl))).2
     (with_reducible refine Ac (w1:=w') (f := 45) (args:=#[sp 6]) ?_ ?_ ?_)
     .simp[Region.wanted,yielded,Act.put,go_sem]
     .simp[Act.eval,Act.put,go_sem]
     .refine(Gb k6 (by decide)).mono ?_;rintro en w9 ⟨u,rfl,hu,hb⟩;exact⟨u,rfl,KT.of hb hg.1.base,hu,hg.1.later hb,by simpa [upd]using hg.2.later hb (fun o h=>h.below hb)⟩
    case refine_10=>
     have k2:Ao A1 (sp 2) w':=(hdp 2 (mq (by kernel_rfl))).2;have k4:Ao B1 (sp 4) w':=(hdp 4 (mq (by kernel_rfl))).2;have k7:Ao x (sp 7) w':=(hdp 7 (mq (by kernel_rfl))).2
     (with_reducible refine Ac (w1:=w') (f := 57) (args:=#[.agg #[.slice p0 n0 c0,.slice p1 n1 c1,.slice p2 n2 c2,.slice p3 n3 c3],sp 2,sp 4,sp 7,.slice pm nm cm]) ?_ ?_ ?_)
     .simp[Region.wanted,yielded,Act.put,go_sem]
     .simp[Act.eval,Act.put,go_sem]
     .refine(Yj (HV.out.below hg.1.keep.bel) k2 k4 k7 HMA.out.2.1 HMB.out.2.1 HX.out HP2.out.2.1 HPf.out HQf.out (HM.out.below hg.1.keep.bel) HZM.out HNM9.out).mono ?_;rintro en w9 ⟨c9,u9,rfl,hc,ho,hb⟩;rw[HYE.out,HZE.out]at hc
      rw[HSE.out]at ho
      exact⟨_,rfl,KT.of hb hg.1.base,⟨c9,u9,rfl,hc,ho⟩,hg.1.later hb,by simpa [upd]using hg.2.later hb (fun o h=>h.below hb)⟩
    case refine_11=>
     have k9:jV A1 B1 Y1 Z1 SB (sp 9) w':=(hdp 9 (mq (by kernel_rfl))).2
     (with_reducible refine Af (w1:=w') (v:=sp 9) ?_ ?_ ?_)
     .simp[Region.wanted,yielded,Act.put,go_sem]
     .simp[execOp,Act.eval,Act.put,go_sem]
     .exact⟨KT.same _ _ _,k9,hg.1,by simpa [upd]using hg.2⟩
    case refine_12=>
     have hx:∃c u,sp 10=.tuple #[c,u]/\Uv A1 B1 Y1 Z1 c w'/\Bh 0 SB u w':=(hdp 10 (mq (by kernel_rfl))).2
     (with_reducible refine Aw hx fun c hx1=>Aw hx1 fun u hx2=>?_)
     have h1:=hx2.1
     (with_reducible refine Af (w1:=w') (v:=c) ?_ ?_ ?_)
     .simp only[Region.wanted]
     .simp[execOp,Act.eval,Act.put,go_sem,h1]
     .exact⟨KT.same _ _ _,hx2.2.1,hg.1,by simpa [upd]using hg.2⟩
    case refine_13=>
     have hx:∃c u,sp 10=.tuple #[c,u]/\Uv A1 B1 Y1 Z1 c w'/\Bh 0 SB u w':=(hdp 10 (mq (by kernel_rfl))).2
     (with_reducible refine Aw hx fun c hx1=>Aw hx1 fun u hx2=>?_)
     have h1:=hx2.1
     (with_reducible refine Af (w1:=w') (v:=u) ?_ ?_ ?_)
     .simp only[Region.wanted]
     .simp[execOp,Act.eval,Act.put,go_sem,h1]
     .exact⟨KT.same _ _ _,hx2.2.2,hg.1,by simpa [upd]using hg.2⟩
    case refine_14=>
     have h9:D 14=false:=hW 14 (mq (by kernel_rfl));rw[hD,h9]at hg
     (with_reducible refine Af (w1:=w'.alloc (.cells #[.slice none 0 0,.slice none 0 0,.slice none 0 0,.slice none 0 0] 87)) (v:=.pointer (some ⟨w'.heap.size,0,none⟩)) ?_ ?_ ?_)
     .simp only[Region.wanted]
     .simp[execOp,go_sem]
     .have hb:Below w'.heap.size w' (w'.alloc (.cells #[.slice none 0 0,.slice none 0 0,.slice none 0 0,.slice none 0 0] 87)):=Bw;refine⟨KT.of hb hg.1.base,trivial,hg.1.later hb,?_⟩;have h8:Ni true false _ _ (z4 87) _ _:=Ni.made hg.2;simpa [upd,h9]using h8
    case refine_15=>
     have hx:∃xa xb xy xz:Option Addr×Nat×Nat,sp 11=.agg #[.slice xa.1 xa.2.1 xa.2.2,.slice xb.1 xb.2.1 xb.2.2,.slice xy.1 xy.2.1 xy.2.2,.slice xz.1 xz.2.1 xz.2.2]/\Uy A1 B1 Y1 Z1 xa xb xy xz w':=(hdp 11 (mq (by kernel_rfl))).2
     (with_reducible refine Aw hx fun xa hx1=>Aw hx1 fun xb hx2=>Aw hx2 fun xy hx3=>Aw hx3 fun xz hx4=>?_)
     have h1:=hx4.1;have h9:D 13=true:=(hdp 13 (mq (by kernel_rfl))).1;rw[hD,h9]at hg
     have hm:=hg.2.2 rfl
     (with_reducible refine Aw hm fun bq hm1=>?_)
     have h3:=hm1.1;have h6:w'.heap[bq]? = some (.cells #[.slice none 0 0,.slice none 0 0,.slice none 0 0,.slice none 0 0] 87 (0,0)):=hm1.2.2.1 rfl;have hp:=put4 (u0:=.slice xa.1 xa.2.1 xa.2.2) (u1:=.slice xb.1 xb.2.1 xb.2.2) (u2:=.slice xy.1 xy.2.1 xy.2.2) (u3:=.slice xz.1 xz.2.1 xz.2.2) h6;have hs:=Jd (none,0,0) (none,0,0) (none,0,0) (none,0,0);have hkt:=hp.kt h6 hs hm1.2.1;have g0:=cells4 h6
     (with_reducible refine An (w1:=Ja w' bq (.slice xa.1 xa.2.1 xa.2.2) (.slice xb.1 xb.2.1 xb.2.2) (.slice xy.1 xy.2.1 xy.2.2) (.slice xz.1 xz.2.1 xz.2.2)) ?_ ?_ ?_)
     .simp only[Region.wanted]
     .simp[execOp,Act.eval,Act.put,go_sem,h1,h3,g0.1.1,g0.1.2.1,g0.1.2.2.1,g0.1.2.2.2,g0.2.1,g0.2.2.1,g0.2.2.2.1,g0.2.2.2.2,Ja]
     .refine⟨hkt,trivial,hg.1.putO hp h6 hs hm1.2.1 (fun x hx=>by cases hx),?_⟩;have h8:Ni true true (sp 13) _ (z4 87) (Uw A1 B1 Y1 Z1) _:=⟨by rw[hp.size];exact hg.2.1,fun _=>⟨bq,h3,hm1.2.1,Oh.done hp.new ⟨xa,xb,xy,xz,rfl,hx4.2.kt hkt⟩⟩⟩
      simpa [upd,h9]using h8
    case refine_16=>
     have k12:Bh 0 SB (sp 12) w':=(hdp 12 (mq (by kernel_rfl))).2
     (with_reducible refine Af (w1:=w') (v:=sp 12) ?_ ?_ ?_)
     .simp[Region.wanted,yielded,Act.put,go_sem]
     .simp[execOp,Act.eval,Act.put,go_sem]
     .exact⟨KT.same _ _ _,k12,hg.1,by simpa [upd]using hg.2⟩
    all_goals ((with_reducible refine Ad ?_ ?_);all_goals first|(simp only[Region.wanted];done)|simp[Region.wanted,yielded,execOp,Act.eval,Act.put,go_sem])
   .intro sp w16 hsp hk;obtain⟨hk1,_,hk2⟩:=hk;obtain⟨b23,e23,_,hst⟩:=hk2 rfl;obtain⟨_,hbox,ya,yb,yy,yz,rfl,hat⟩:=hst.2 rfl;obtain⟨pw,cw,ew,hpw,_⟩:=(show Bh 0 SB (sp 15) w16 from hsp 15 rfl).part HS8b.out;rw[HLE.out]at ew hpw
    have hb:=hk1.keep.bel;have HCD:=Ab hbox;have HYR:=Ab (Nj.bits hat.2.2.1);have HZR:=Ab (Nj.bits hat.2.2.2);have HCB_:_:=(hb.block _ (Ep HCB.out).1).trans HCB.out;clear HCB;have HCB:=Ab HCB_;clear HCB_;replace HG:=Ab (HG.out.below hb);replace HT:=Ab (HT.out.below hb HT.out.size);replace HM:=Ab (HM.out.below hb);replace HB:=Ab (Ae HB.out hb);replace HX14:=Ab (HX14.out.below hb HX14.out.lt);replace HV:=Ab (HV.out.below hb);replace HXP:=Ab (HXP.out.below hb HXP.out.lt);replace HXQ:=Ab (HXQ.out.below hb HXQ.out.lt);replace HFa:=Ab (HFa.out.below hb);replace HFb:=Ab (HFb.out.below hb);replace HCA:=Ab (HCA.out.below hb);replace HPB:=Ab (HPB.out.below hb);clear hsp hk1 hk2 hst hbox hat hb;simp only[Am,Nat.reduceAdd];rw[e23,ew];clear e23 ew;generalize sp 2=y2,sp 4=y4,sp 6=y6,sp 7=y7,sp 9=y9,sp 10=y10,sp 11=y11,sp 12=y12,sp 14=y14 at *
    go_simp
    obtain⟨S,hS⟩:∃S,strOf SB=S:=⟨_,rfl⟩
    have cs:=Uj HPB.out.row;have ct:=Uj hpw.row;rw[hS]at cs ct
    have g0:=(cells4 HCB.out).1;have e0:=g0.2.2.1;have k0:=(cells4 HCD.out).1;have e1:=k0.2.2.1;clear g0 k0
    go_wp2_with fail
    clear e0 e1 cs ct;refine(Vz (Fit.of HCA.out.2.2.1 HYl.out) HYR.out (by decide)).mono ?_;rintro en w17 ⟨_,rfl,rfl,hb⟩;have HCB_:_:=(hb.block _ (Ep HCB.out).1).trans HCB.out;clear HCB;have HCB:=Ab HCB_;clear HCB_;have HCD_:_:=(hb.block _ (Ep HCD.out).1).trans HCD.out;clear HCD;have HCD:=Ab HCD_;clear HCD_;replace HG:=Ab (HG.out.below hb);replace HT:=Ab (HT.out.below hb HT.out.size);replace HM:=Ab (HM.out.below hb);replace HB:=Ab (Ae HB.out hb);replace HX14:=Ab (HX14.out.below hb HX14.out.lt);replace HV:=Ab (HV.out.below hb);replace HXP:=Ab (HXP.out.below hb HXP.out.lt);replace HXQ:=Ab (HXQ.out.below hb HXQ.out.lt);replace HFa:=Ab (HFa.out.below hb);replace HFb:=Ab (HFb.out.below hb);replace HCA:=Ab (HCA.out.below hb);replace HZR:=Ab (HZR.out.below hb);clear hb;have e0:=(cells4 HCB.out).1.2.2.2;have e1:=(cells4 HCD.out).1.2.2.2
    go_wp2_with fail
    clear e0 e1;refine(Vz (Fit.of HCA.out.2.2.2 HZl.out) HZR.out (by decide)).mono ?_;rintro en w18 ⟨_,rfl,rfl,hb⟩;have HCB_:_:=(hb.block _ (Ep HCB.out).1).trans HCB.out;clear HCB;have HCB:=Ab HCB_;clear HCB_;replace HG:=Ab (HG.out.below hb);replace HT:=Ab (HT.out.below hb HT.out.size);replace HM:=Ab (HM.out.below hb);replace HB:=Ab (Ae HB.out hb);replace HX14:=Ab (HX14.out.below hb HX14.out.lt);replace HV:=Ab (HV.out.below hb);replace HXP:=Ab (HXP.out.below hb HXP.out.lt);replace HXQ:=Ab (HXQ.out.below hb HXQ.out.lt);replace HFa:=Ab (HFa.out.below hb);replace HFb:=Ab (HFb.out.below hb);replace HCA:=Ab (HCA.out.below hb);clear hb;have e0:=(cells4 HCB.out).1.1;have e1:=HXP.out.cell
    go_wp2_with fail
    clear e0 e1;refine(Bt (Fit.of HCA.out.1 HFa.out.lim) HFa.out (by decide) (by decide) (He _)).mono ?_;rintro en w19 ⟨_,rfl,rfl,hb⟩;have HCB_:_:=(hb.block _ (Ep HCB.out).1).trans HCB.out;clear HCB;have HCB:=Ab HCB_;clear HCB_;replace HG:=Ab (HG.out.below hb);replace HT:=Ab (HT.out.below hb HT.out.size);replace HM:=Ab (HM.out.below hb);replace HB:=Ab (Ae HB.out hb);replace HX14:=Ab (HX14.out.below hb HX14.out.lt);replace HV:=Ab (HV.out.below hb);replace HXP:=Ab (HXP.out.below hb HXP.out.lt);replace HXQ:=Ab (HXQ.out.below hb HXQ.out.lt);replace HFa:=Ab (HFa.out.below hb);replace HFb:=Ab (HFb.out.below hb);replace HCA:=Ab (HCA.out.below hb);clear hb;have e0:=(cells4 HCB.out).1.2.1;have e1:=HXQ.out.cell
    go_wp2_with fail
    clear e0 e1;refine(Bt (Fit.of HCA.out.2.1 HFb.out.lim) HFb.out (by decide) (by decide) (He _)).mono ?_;rintro en w20 ⟨_,rfl,rfl,hb⟩;have HBf:=Ab (Ae HB.out hb);clear hb;go_wp2;go_ret;exact⟨rfl,HBf.out⟩
end Go.Proofs.YthgoeiegdhphjaaGreatDoor
