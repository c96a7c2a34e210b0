/- PledgeTells, walked: what pledges are at a place, what opens and fits them, and whether they are members, is as the document says. -/
import Derived.Test.YtnbmfaihlefgfaaGreatDoorPdA
set_option maxRecDepth 1000000
set_option maxHeartbeats 16000000
set_option linter.all false
namespace Go.Proofs.YtnbmfaihlefgfaaGreatDoor
open Go Go.RowKit Go.Proofs.YtnbmfaihlefgfaaGreatDoor.Flow
theorem cB {w:World}{v u vx:Value}{P Q G H X n N:Nat}{cs:List Nat}(h:Fl P Q G H v w)(hC:nU n cs u w)(hX:Ap X vx w)(lX:Al X<=100000)(lQ:Al Q<=100000)(lP:Al P<=100000)(hP:2<=P)(hQ:0<Q)(hc:∀x∈cs,Al x<=100000)(hn:n<=1000)(hN:Gm P (X%Q) cs=N) :
  Calls Tryz.prog 68 #[v,u,vx] w fun e w'=>∃x,e=.returned x/\Ap N x w'/\Below w.heap.size w w':=by
 obtain⟨q,d,rfl,h2⟩:=hC.ex;subst hN;exact We h h2 hX lX lQ lP hP hQ hc hn
theorem Lk {n:Nat}(w:World)(hn:n<18446744073709551616) :
  Calls Tryz.prog 27 #[.int .u64 n] w fun e w'=>∃x,e=.returned x/\Ap n x w'/\Below w.heap.size w w' :=
 (Kh n w hn).mono fun _ _ ⟨q,m,d,h1,h2,h3,_⟩=>⟨_,h1,Ap.of h2,h3⟩
theorem Tr {w:World}{v u:Value}{N M:Nat}{K:Int}(h:Ap N v w)(k:Ap M u w)(hN:Al N<=100000)(hM:Al M<=100000)(hK:Bm N M=K) :
  Calls Tryz.prog 51 #[v,u] w fun en w'=>∃x,en=.returned x/\x=.int .i64 K/\Below w.heap.size w w':=by
 subst hK;exact gX h k (by omega) (by omega)
theorem kY (w:World)(hr:Tabs w)(A:Int)(p:Option Addr)(n c:Nat)(xs:List Nat)(h:Bq w .u64 p n c xs)(h64:∀x∈xs,Zx x)(X:Nat)(hX:Zx X)(S:Nat)(hS:Zx S)(R:Nat)(hR:Zx R) :
  Calls Tryz.prog 11 #[.int .i64 A,.slice p n c,.int .u64 (X:Nat),.int .u64 (S:Nat),.int .u64 (R:Nat)] w fun e w'=>e=.returned (.bool true)/\Below w.heap.size w w':=by
 have HLI:=Aa Ih;have HGR:=Aa Gc;have HT:=Aa hr;have HROW:=Aa h;have H64:=Aa h64;have HX:Ac (X<18446744073709551616):=⟨hX⟩
 have HSl:Ac (S<18446744073709551616):=⟨hS⟩
 have HRl:Ac (R<18446744073709551616):=⟨hR⟩
 have HLN:=Aa h.len;have hnc:=h.cap;have hcm:=h.max;obtain⟨i,hi⟩:∃i,((IntKind.u64.wrap A)%3).toNat=i:=⟨_,rfl⟩
 have HI3:Ac (i<3):=⟨by rw[<-hi];exact Vu A⟩
 have HI:=Aa hi;clear h h64 hr hX hS hR hi;go_enter Tryz.func11,Tryz.ntmps11
 go_wp2_with fail
 refine(HLI.out w HT.out).mono ?_;rintro en w1 ⟨rfl,b1⟩;have B1:=Aa b1;clear b1
 by_cases hn8:8<n
 .have hn8':(8:Int)<n:=by omega
  go_wp2_with fail
  refine(HLI.out w1 (HT.out.below B1.out HT.out.size)).mono ?_;rintro en w2 ⟨rfl,b2⟩;have B2:=Aa (Ae B1.out b2);clear b2;go_wp2;go_ret;exact⟨rfl,B2.out⟩
 have hn8':¬(8:Int)<n:=by omega
 go_wp2_with fail
 refine(HGR.out w1 A (HT.out.below B1.out HT.out.size)).mono ?_;rintro en w2 ⟨b,rfl,hg2,b2⟩;rw[HI.out]at hg2
 obtain⟨P,hP⟩:∃q,gP i=q:=⟨_,rfl⟩
 obtain⟨q,hq⟩:∃q,gQ i=q:=⟨_,rfl⟩
 obtain⟨gg,hgg⟩:∃q,gG i=q:=⟨_,rfl⟩
 obtain⟨hh,hhh⟩:∃q,gH i=q:=⟨_,rfl⟩
 have HPQ:Ac (Ce q):=⟨by rw[<-hq];exact Yq i HI3.out⟩
 have HP2:Ac (2<=P):=⟨by have:=El i HI3.out;omega⟩
 have HGM:Ac (gg^q%P=1%P):=⟨by
  have h1:=Lx i HI3.out;rw[hq,hP,hgg]at h1
  rw[h1,Nat.mod_eq_of_lt (by have:=HP2.out;omega)]⟩
 have HHM:Ac (hh^q%P=1%P):=⟨by
  have h1:=Ow i HI3.out;rw[hq,hP,hhh]at h1
  rw[h1,Nat.mod_eq_of_lt (by have:=HP2.out;omega)]⟩
 have HG1:Ac (gg%P≠1%P):=⟨by
  have h1:=El i HI3.out;rw[hq,hP,hgg,hhh]at h1
  rw[Nat.mod_eq_of_lt h1.2.2.1,Nat.mod_eq_of_lt (by omega)];omega⟩
 have hbd:=El i HI3.out;rw[hq,hP,hgg,hhh]at hbd
 have HQ0:Ac (0<q):=⟨by omega⟩
 have HP0:Ac (0<P):=⟨by omega⟩
 have hP65:Al P<=65:=(Bc P 65).2 hbd.2.2.2.2.2;have HPl:Ac (Al P<=100000):=⟨by omega⟩
 have HGl:Ac (Al gg<=100000):=⟨Fb (Co (Nat.le_of_lt hbd.2.2.1)) HPl.out⟩
 have HHl:Ac (Al hh<=100000):=⟨Fb (Co (Nat.le_of_lt hbd.2.2.2.2.1)) HPl.out⟩
 have HQl:Ac (Al q<=100000):=⟨by
  have hl:=(nM i HI3.out)
  rw[hq]at hl
  have:=eT hl;omega⟩
 clear hbd hP65;rw[hP,hq,hgg,hhh]at hg2
 have HG2:=Aa hg2;have B2:=Aa (Ae B1.out b2);clear hg2 b2 hq hP hgg hhh
 go_wp2_with fail
 refine(Xm HG2.out).mono ?_;rintro en w3 ⟨_,rfl,hv,b3'⟩;obtain⟨p0,n0,c0,p1,n1,c1,p2,n2,c2,p3,n3,c3,rfl,h0,h1,h2,h3⟩:=hv.ex;have hbx:Below w3.heap.size w3 (w3.alloc (.cells #[.slice p0 n0 c0,.slice p1 n1 c1,.slice p2 n2 c2,.slice p3 n3 c3] 30)):=Cy;have hbo:=Cv.made 30 w3 (.slice p0 n0 c0) (.slice p1 n1 c1) (.slice p2 n2 c2) (.slice p3 n3 c3);obtain⟨wa,hwa⟩:∃wa,w3.alloc (.cells #[.slice p0 n0 c0,.slice p1 n1 c1,.slice p2 n2 c2,.slice p3 n3 c3] 30)=wa:=⟨_,rfl⟩
 rw[hwa]at hbx hbo
 obtain⟨b3,hb3⟩:∃x,w3.heap.size=x:=⟨_,rfl⟩
 rw[hb3]at hbo
 have HBX0:=Aa hbo;have HV0:Ac (Fl P q gg hh (.agg #[.slice p0 n0 c0,.slice p1 n1 c1,.slice p2 n2 c2,.slice p3 n3 c3]) wa):=⟨⟨p0,n0,c0,p1,n1,c1,p2,n2,c2,p3,n3,c3,rfl,h0.below hbx,h1.below hbx,h2.below hbx,h3.below hbx⟩⟩
 have HGB0:=Aa (Ap.of (h2.below hbx));have hb3a:=Ae b3' hbx;have HG3:=Aa (HG2.out.below hb3a);have B3:=Aa (Ae B2.out hb3a);clear hv h0 h1 h2 h3 hbx hbo b3' hb3a
 go_wp2_with fail
 refine(Et wa p n c xs (HROW.out.below B3.out) H64.out (by omega)).mono ?_;rintro en w4 ⟨p4,c4,rfl,hp4,b4⟩;have HP4:=Aa hp4;have HG4:=Aa (HG3.out.below b4);have HV4:=Aa (HV0.out.below b4);have HGB4:=Aa (HGB0.out.below b4);have HBX4:=Aa (HBX0.out.below b4 HBX0.out.lt);have B4:=Aa (Ae B3.out b4);have HCl:Ac (∀x∈xs,Al x<=100000):=⟨fun x hx=>by have:=(Bc x 64).2 (H64.out x hx);omega⟩
 have HXl:Ac (Al X<=100000):=⟨by have:=(Bc X 64).2 HX.out;omega⟩
 have HSb:Ac (Al S<=100000):=⟨by have:=(Bc S 64).2 HSl.out;omega⟩
 have HRb:Ac (Al R<=100000):=⟨by have:=(Bc R 64).2 HRl.out;omega⟩
 have hcap:=hp4.cap;have hcmx:=hp4.max;clear hp4 b4;obtain⟨NE,hNE⟩:∃V,Gm P (X%q) xs=V:=⟨_,rfl⟩
 obtain⟨NL,hNL⟩:∃V,Cx P q gg hh S R=V:=⟨_,rfl⟩
 obtain⟨NB,hNB⟩:∃V,Cx P q gg hh S 0=V:=⟨_,rfl⟩
 have HNE:=Aa hNE;have HNL:=Aa hNL;have HNB:=Aa hNB;have HNLr:Ac (gg^S%P*(hh^R%P)%P=NL):=⟨by rw[<-hNL,Rj HGM.out HHM.out]⟩
 have HNBr:Ac (gg^S%P=NB):=⟨by rw[<-hNB,Iu HGM.out HHM.out,Nat.pow_zero,Nat.mul_one]⟩
 have HNEl:Ac (Al NE<=100000):=⟨Fb (Co (by rw[<-hNE];exact Nat.le_of_lt (Vw HP2.out _))) HPl.out⟩
 have HNLl:Ac (Al NL<=100000):=⟨Fb (Co (by rw[<-hNL];exact Nat.le_of_lt (Qp HP0.out))) HPl.out⟩
 have HNBl:Ac (Al NB<=100000):=⟨Fb (Co (by rw[<-hNB];exact Nat.le_of_lt (Qp HP0.out))) HPl.out⟩
 obtain⟨A1,hA1⟩:∃V,decide (NL=NE)=V:=⟨_,rfl⟩
 obtain⟨A2,hA2⟩:∃V,decide (NB=NE)=V:=⟨_,rfl⟩
 obtain⟨K1,hK1⟩:∃K,Bm NE NL=K:=⟨_,rfl⟩
 obtain⟨K2,hK2⟩:∃K,Bm NE NB=K:=⟨_,rfl⟩
 have HA1:=Aa hA1;have HA2:=Aa hA2;have HK1:=Aa hK1;have HK2:=Aa hK2;have HE1:Ac (((K1:Int)==0)=A1):=⟨by
  rw[<-hA1,<-hK1,Bool.eq_iff_iff,beq_iff_eq,decide_eq_true_eq,Bv];exact eq_comm⟩
 have HE2:Ac (((K2:Int)==0)=A2):=⟨by
  rw[<-hA2,<-hK2,Bool.eq_iff_iff,beq_iff_eq,decide_eq_true_eq,Bv];exact eq_comm⟩
 clear hNE hNL hNB hA1 hA2 hK1 hK2 HBX0 HV0 HGB0;go_wp2;clear hwa hb3;refine Aj (by kernel_rfl) (by kernel_rfl)
  [some (.agg #[.slice p0 n0 c0,.slice p1 n1 c1,.slice p2 n2 c2,.slice p3 n3 c3]),some (.slice p4 n c4),none,some (.int .u64 (X:Nat)),none,none,none]
  [false,false,true,false,true,true,true] rfl
  (fun w1 w2=>Below w1.heap.size w1 w2)
  (fun _ w'=>Below w4.heap.size w4 w')
  (fun i v w'=>match i with
   | 2=>nU n xs v w'
   | 4=>Ap X v w'
   | 5=>Ap NE v w'
   | 6=>Ap NE v w'
   | _=>True)
  ?_ (Bg _ _).drew ?_ ?_
 .intro i v w1 w2 hf hb;split at hf
  .exact hf.below hb
  .exact hf.below hb
  .exact hf.below hb
  .exact hf.below hb
  .trivial
 .simp only[Bh,Nat.reduceAdd];refine⟨?_,?_,?_,?_,?_,?_,?_,trivial⟩
  all_goals intro D sp w' hD hW hdp hbx'
  case refine_1=>
   have hB4:=HBX4.out.below hbx' HBX4.out.lt;have g0:=hB4.cells.1;have g1:=hB4.cells.2.1;have g2:=hB4.cells.2.2.1;have g3:=hB4.cells.2.2.2
   with_reducible refine Ad ?_ ?_
   all_goals simp[Region.wanted,yielded,execOp,Act.eval,Act.put,go_sem,g0,g1,g2,g3]
  case refine_3=>
   (with_reducible refine Ab (w1:=w') (f := 63) (args:=#[.slice p4 n c4]) ?_ ?_ ?_)
   .simp[Region.wanted,yielded,Act.put,go_sem]
   .simp[Act.eval,Act.put,go_sem]
   .refine(aV (HP4.out.below hbx') (by decide) (by omega)).mono ?_;rintro en w9 ⟨u,rfl,hu,hb⟩;exact⟨u,rfl,hb,hu,Ae hbx' hb⟩
  case refine_5=>
   (with_reducible refine Ab (w1:=w') (f := 27) (args:=#[.int .u64 (X:Nat)]) ?_ ?_ ?_)
   .simp[Region.wanted,yielded,Act.put,go_sem]
   .simp[Act.eval,Act.put,go_sem]
   .refine(Lk (n:=X) w' HX.out).mono ?_;rintro en w9 ⟨u,rfl,hu,hb⟩;exact⟨u,rfl,hb,hu,Ae hbx' hb⟩
  case refine_6=>
   have k2:nU n xs (sp 2) w':=(hdp 2 (mq (by kernel_rfl))).2;have k4:Ap X (sp 4) w':=(hdp 4 (mq (by kernel_rfl))).2
   (with_reducible refine Ab (w1:=w') (f := 68) (args:=#[.agg #[.slice p0 n0 c0,.slice p1 n1 c1,.slice p2 n2 c2,.slice p3 n3 c3],sp 2,sp 4]) ?_ ?_ ?_)
   .simp[Region.wanted,yielded,Act.put,go_sem]
   .simp[Act.eval,Act.put,go_sem]
   .refine(cB (HV4.out.below hbx') k2 k4 HXl.out HQl.out HPl.out HP2.out HQ0.out HCl.out (by omega) HNE.out).mono ?_;rintro en w9 ⟨u,rfl,hu,hb⟩;exact⟨u,rfl,hb,hu,Ae hbx' hb⟩
  case refine_7=>
   have k5:Ap NE (sp 5) w':=(hdp 5 (mq (by kernel_rfl))).2
   (with_reducible refine Ai (w1:=w') (v:=sp 5) ?_ ?_ ?_)
   .simp[Region.wanted,yielded,Act.put,go_sem]
   .simp[execOp,Act.eval,Act.put,go_sem]
   .exact⟨Bg _ _,k5,hbx'⟩
  all_goals ((with_reducible refine Ad ?_ ?_);all_goals first|(simp only[Region.wanted];done)|simp[Region.wanted,yielded,execOp,Act.eval,Act.put,go_sem])
 .intro sp w5 hsp hb;obtain⟨qt,mt,dt,et,ht⟩:Ap NE (sp 6) w5:=hsp 6 rfl;have HAT5:=Aa (Ap.of ht);have HG5:=Aa (HG4.out.below hb);have HV5:=Aa (HV4.out.below hb);have HGB5:=Aa (HGB4.out.below hb);have HBX5:=Aa (HBX4.out.below hb HBX4.out.lt);have HP5:=Aa (HP4.out.below hb);have B5:=Aa (Ae B4.out hb);clear HG4 HV4 HGB4 HBX4 HP4 B4;clear hsp ht hb;simp only[Am,Nat.reduceAdd];rw[et];clear et;generalize sp 2=y2,sp 4=y4,sp 5=y5 at *
  go_simp
  go_wp2_with fail
  refine(Cd (n:=X) w5 HX.out).mono ?_;rintro en w6 ⟨x6,rfl,h6,b6⟩;have HX6:=Aa h6;have HG6:=Aa (HG5.out.below b6);have HV6:=Aa (HV5.out.below b6);have HGB6:=Aa (HGB5.out.below b6);have HBX6:=Aa (HBX5.out.below b6 HBX5.out.lt);have HP6:=Aa (HP5.out.below b6);have HAT6:=Aa (HAT5.out.below b6);have B6:=Aa (Ae B5.out b6);clear HG5 HV5 HGB5 HBX5 HP5 HAT5 B5;clear h6 b6
  go_wp2_with fail
  refine(Xu HG6.out HP6.out HX6.out (by decide) (by decide) (by omega) HNE.out).mono ?_;rintro en w7 ⟨x7,rfl,h7,b7⟩;have HY7:=Aa h7;have HG7:=Aa (HG6.out.below b7);have HV7:=Aa (HV6.out.below b7);have HGB7:=Aa (HGB6.out.below b7);have HBX7:=Aa (HBX6.out.below b7 HBX6.out.lt);have HP7:=Aa (HP6.out.below b7);have HAT7:=Aa (HAT6.out.below b7);have B7:=Aa (Ae B6.out b7);clear HG6 HV6 HGB6 HBX6 HP6 HAT6 B6;clear h7 b7 HX6
  go_wp2_with fail
  refine(dP HY7.out HAT7.out (by decide)).mono ?_;rintro en w8 ⟨_,rfl,rfl,b8⟩;have HG8:=Aa (HG7.out.below b8);have HV8:=Aa (HV7.out.below b8);have HGB8:=Aa (HGB7.out.below b8);have HBX8:=Aa (HBX7.out.below b8 HBX7.out.lt);have HP8:=Aa (HP7.out.below b8);have HAT8:=Aa (HAT7.out.below b8);have B8:=Aa (Ae B7.out b8);clear HG7 HV7 HGB7 HBX7 HP7 HAT7 B7;clear b8 HY7;go_wp2
  go_loopw [15,17,52] (fun va _ iv wr=>∃k:Nat,k<=n/\iv=.int .i64 k/\va=.bool ((xs.take k).all (Nl P q))/\Ac (Below w8.heap.size w8 wr)) (fun _ _ iv _=>n-(intOf iv).toNat)
  case atStart=>exact⟨0,by omega,rfl,rfl,⟨Bg _ _⟩⟩
  case round=>
   obtain⟨k,hk,rfl,hva,HBr⟩:=hrel
   by_cases hkn:k<n
   .obtain⟨a,hak⟩:∃a,xs[k]? = some a:=⟨xs[k]'(by rw[<-HLN.out];exact hkn),List.getElem?_eq_getElem _⟩
    obtain⟨b2,off2,rfl,hb2,hc2⟩:=HP8.out.at_ (by omega)
    obtain⟨q1,m1,d1,ha1,ha2,ha3⟩:=hc2 k a hak;have hcy:wr.cell? ⟨b2,off2+k,none⟩=some (.slice q1 m1 d1):=(HBr.out.cell (p:=⟨b2,off2+k,none⟩) hb2).trans ha1;have hba:Below wr.heap.size wr (wr.alloc (.cells #[.slice q1 m1 d1] 36)):=Cy;have hxa:=(Af.made wr (.slice q1 m1 d1)).cell;obtain⟨wm,hwm⟩:∃wa,wr.alloc (.cells #[.slice q1 m1 d1] 36)=wa:=⟨_,rfl⟩
    rw[hwm]at hba hxa
    have HFA:=Aa (((Fit.of ha2 ha3).below HBr.out).below hba);have HBm:=Aa (Ae HBr.out hba);have HGm:=Aa (HG8.out.below HBm.out);have HTK:Ac ((xs.take (k+1)).all (Nl P q)=((xs.take k).all (Nl P q)&&Nl P q a)):=⟨by rw[Ez hak,List.all_append];simp⟩
    obtain⟨M1,hM1⟩:∃M,Nl P q a=M:=⟨_,rfl⟩
    have HM1:Ac (decide (0<a/\a<P/\a^q%P=1)=M1):=⟨hM1⟩
    obtain⟨L1,hL1⟩:∃M,(xs.take k).all (Nl P q)=M:=⟨_,rfl⟩
    rw[hL1]at hva HTK
    rw[hM1]at HTK
    have hkn':(k:Int)<n:=by omega
    have hnk:¬n<=k:=by omega
    subst hva;clear hc2 hak ha1 ha2 hba hb2 hM1 hL1
    cases L1 with
    | true=>
     go_wp2_with fail
     refine(Pt HGm.out HFA.out (by decide)).mono ?_;rintro en w9 ⟨rfl,b9⟩;rw[HM1.out];have HB9:=Aa (Ae HBm.out b9);have HT9:Ac ((xs.take (k+1)).all (Nl P q)=M1):=⟨by rw[HTK.out];rfl⟩
     clear b9 hwm hxa hcy;go_wp2;go_roundw
     case rel=>exact⟨k+1,by omega,by go_num,by rw[HT9.out],HB9⟩
     case measure=>simp[intOf];omega
    | false=>
     have HT9:Ac ((xs.take (k+1)).all (Nl P q)=false):=⟨by rw[HTK.out];rfl⟩
     go_wp2;clear hwm hxa hcy;go_roundw
     case rel=>exact⟨k+1,by omega,by go_num,by rw[HT9.out],HBm⟩
     case measure=>simp[intOf];omega
   .obtain rfl:k=n:=by omega
    have hkn':¬(k:Int)<k:=by omega
    rw[List.take_of_length_le (by rw[<-HLN.out];exact Av _)]at hva
    obtain⟨AL,hAL⟩:∃M,xs.all (Nl P q)=M:=⟨_,rfl⟩
    rw[hAL]at hva
    have HAL:=Aa hAL;subst hva;clear hAL;have HG1:=Aa (HG8.out.below HBr.out);have HV1:=Aa (HV8.out.below HBr.out);have HGB1:=Aa (HGB8.out.below HBr.out);have HBX1:=Aa (HBX8.out.below HBr.out HBX8.out.lt);have HP1:=Aa (HP8.out.below HBr.out);have HAT1:=Aa (HAT8.out.below HBr.out);have B1:=Aa (Ae B8.out HBr.out);clear HG8 HV8 HGB8 HBX8 HP8 HAT8 B8;clear HBr;obtain⟨w1,hw1⟩:∃x,wr=x:=⟨_,rfl⟩
    have hE:=HE1.out;subst hw1;go_wp2;refine Aj (by kernel_rfl) (by kernel_rfl)
     [some (.slice qt mt dt),some (.agg #[.slice p0 n0 c0,.slice p1 n1 c1,.slice p2 n2 c2,.slice p3 n3 c3]),some (.int .u64 (S:Nat)),none,some (.int .u64 (R:Nat)),none,none,none,some (.bool A1),some (.bool A1)]
     [false,false,false,true,false,true,true,true,false,false] rfl
     (fun w1 w2=>Below w1.heap.size w1 w2)
     (fun _ w'=>Below wr.heap.size wr w')
     (fun i v w'=>match i with
      | 3=>Ap S v w'
      | 5=>Ap R v w'
      | 6=>Ap NL v w'
      | 7=>v=.int .i64 K1
      | _=>True)
     ?_ (Bg _ _).drew ?_ ?_
    .intro i v w1 w2 hf hb;split at hf
     .exact hf.below hb
     .exact hf.below hb
     .exact hf.below hb
     .exact hf
     .trivial
    .simp only[Bh,Nat.reduceAdd];refine⟨?_,?_,?_,?_,?_,?_,?_,?_,?_,?_,trivial⟩
     all_goals intro D sp w' hD hW hdp hbx'
     case refine_2=>
      have hB4:=HBX1.out.below hbx' HBX1.out.lt;have g0:=hB4.cells.1;have g1:=hB4.cells.2.1;have g2:=hB4.cells.2.2.1;have g3:=hB4.cells.2.2.2
      with_reducible refine Ad ?_ ?_
      all_goals simp[Region.wanted,yielded,execOp,Act.eval,Act.put,go_sem,g0,g1,g2,g3]
     case refine_4=>
      (with_reducible refine Ab (w1:=w') (f := 27) (args:=#[.int .u64 (S:Nat)]) ?_ ?_ ?_)
      .simp[Region.wanted,yielded,Act.put,go_sem]
      .simp[Act.eval,Act.put,go_sem]
      .refine(Lk (n:=S) w' HSl.out).mono ?_;rintro en w9 ⟨u,rfl,hu,hb⟩;exact⟨u,rfl,hb,hu,Ae hbx' hb⟩
     case refine_6=>
      (with_reducible refine Ab (w1:=w') (f := 27) (args:=#[.int .u64 (R:Nat)]) ?_ ?_ ?_)
      .simp[Region.wanted,yielded,Act.put,go_sem]
      .simp[Act.eval,Act.put,go_sem]
      .refine(Lk (n:=R) w' HRl.out).mono ?_;rintro en w9 ⟨u,rfl,hu,hb⟩;exact⟨u,rfl,hb,hu,Ae hbx' hb⟩
     case refine_7=>
      have k3:Ap S (sp 3) w':=(hdp 3 (mq (by kernel_rfl))).2;have k5:Ap R (sp 5) w':=(hdp 5 (mq (by kernel_rfl))).2
      (with_reducible refine Ab (w1:=w') (f := 71) (args:=#[.agg #[.slice p0 n0 c0,.slice p1 n1 c1,.slice p2 n2 c2,.slice p3 n3 c3],sp 3,sp 5]) ?_ ?_ ?_)
      .simp[Region.wanted,yielded,Act.put,go_sem]
      .simp[Act.eval,Act.put,go_sem]
      .refine(Yy (HV1.out.below hbx') k3 k5 HSb.out HRb.out HPl.out HGl.out HHl.out HP0.out HNLr.out).mono ?_;rintro en w9 ⟨u,rfl,hu,hb⟩;exact⟨u,rfl,hb,hu,Ae hbx' hb⟩
     case refine_8=>
      have k6:Ap NL (sp 6) w':=(hdp 6 (mq (by kernel_rfl))).2
      (with_reducible refine Ab (w1:=w') (f := 51) (args:=#[.slice qt mt dt,sp 6]) ?_ ?_ ?_)
      .simp[Region.wanted,yielded,Act.put,go_sem]
      .simp[Act.eval,Act.put,go_sem]
      .refine(Tr (HAT1.out.below hbx') k6 HNEl.out HNLl.out HK1.out).mono ?_;rintro en w9 ⟨_,rfl,rfl,hb⟩;exact⟨_,rfl,hb,rfl,Ae hbx' hb⟩
     case refine_9=>
      have k7:(sp 7)=.int .i64 K1:=(hdp 7 (mq (by kernel_rfl))).2
      with_reducible refine Ad ?_ ?_
      all_goals simp[Region.wanted,yielded,execOp,Act.eval,Act.put,go_sem,k7,hE]
     all_goals ((with_reducible refine Ad ?_ ?_);all_goals first|(simp only[Region.wanted];done)|simp[Region.wanted,yielded,execOp,Act.eval,Act.put,go_sem])
    .intro sp w2 hsp hb;have HG2:=Aa (HG1.out.below hb);have HV2:=Aa (HV1.out.below hb);have HGB2:=Aa (HGB1.out.below hb);have HBX2:=Aa (HBX1.out.below hb HBX1.out.lt);have HP2:=Aa (HP1.out.below hb);have HAT2:=Aa (HAT1.out.below hb);have B2:=Aa (Ae B1.out hb);clear HG1 HV1 HGB1 HBX1 HP1 HAT1 B1;clear hsp hb hE;have hE:=HE2.out;simp only[Am,Nat.reduceAdd];generalize sp 3=y3,sp 5=y5,sp 6=y6,sp 7=y7 at *
     go_simp
     go_wp2;refine Aj (by kernel_rfl) (by kernel_rfl)
      [some (.slice qt mt dt),some (.agg #[.slice p0 n0 c0,.slice p1 n1 c1,.slice p2 n2 c2,.slice p3 n3 c3]),some (.pointer (some ⟨b3,2,none⟩)),some (.slice p2 n2 c2),some (.int .u64 (S:Nat)),none,none,none,some (.bool A2),some (.bool A2)]
      [false,false,false,false,false,true,true,true,false,false] rfl
      (fun w1 w2=>Below w1.heap.size w1 w2)
      (fun _ w'=>Below w2.heap.size w2 w')
      (fun i v w'=>match i with
       | 5=>Ap S v w'
       | 6=>Ap NB v w'
       | 7=>v=.int .i64 K2
       | _=>True)
      ?_ (Bg _ _).drew ?_ ?_
     .intro i v w1 w2 hf hb;split at hf
      .exact hf.below hb
      .exact hf.below hb
      .exact hf
      .trivial
     .simp only[Bh,Nat.reduceAdd];refine⟨?_,?_,?_,?_,?_,?_,?_,?_,?_,?_,trivial⟩
      all_goals intro D sp w' hD hW hdp hbx'
      case refine_2=>
       have hB4:=HBX2.out.below hbx' HBX2.out.lt;have g0:=hB4.cells.1;have g1:=hB4.cells.2.1;have g2:=hB4.cells.2.2.1;have g3:=hB4.cells.2.2.2
       with_reducible refine Ad ?_ ?_
       all_goals simp[Region.wanted,yielded,execOp,Act.eval,Act.put,go_sem,g0,g1,g2,g3]
      case refine_4=>
       have hB4:=HBX2.out.below hbx' HBX2.out.lt;have g2:=hB4.cells.2.2.1
       with_reducible refine Ad ?_ ?_
       all_goals simp[Region.wanted,yielded,execOp,Act.eval,Act.put,go_sem,g2]
      case refine_6=>
       (with_reducible refine Ab (w1:=w') (f := 27) (args:=#[.int .u64 (S:Nat)]) ?_ ?_ ?_)
       .simp[Region.wanted,yielded,Act.put,go_sem]
       .simp[Act.eval,Act.put,go_sem]
       .refine(Lk (n:=S) w' HSl.out).mono ?_;rintro en w9 ⟨u,rfl,hu,hb⟩;exact⟨u,rfl,hb,hu,Ae hbx' hb⟩
      case refine_7=>
       have k5:Ap S (sp 5) w':=(hdp 5 (mq (by kernel_rfl))).2
       (with_reducible refine Ab (w1:=w') (f := 72) (args:=#[.agg #[.slice p0 n0 c0,.slice p1 n1 c1,.slice p2 n2 c2,.slice p3 n3 c3],.slice p2 n2 c2,sp 5]) ?_ ?_ ?_)
       .simp[Region.wanted,yielded,Act.put,go_sem]
       .simp[Act.eval,Act.put,go_sem]
       .refine(Ia (HV2.out.below hbx') (HGB2.out.below hbx') k5 HGl.out HSb.out HPl.out HP0.out).mono ?_;rintro en w9 ⟨u,rfl,hu,hb⟩;rw[HNBr.out]at hu
        exact⟨u,rfl,hb,hu,Ae hbx' hb⟩
      case refine_8=>
       have k6:Ap NB (sp 6) w':=(hdp 6 (mq (by kernel_rfl))).2
       (with_reducible refine Ab (w1:=w') (f := 51) (args:=#[.slice qt mt dt,sp 6]) ?_ ?_ ?_)
       .simp[Region.wanted,yielded,Act.put,go_sem]
       .simp[Act.eval,Act.put,go_sem]
       .refine(Tr (HAT2.out.below hbx') k6 HNEl.out HNBl.out HK2.out).mono ?_;rintro en w9 ⟨_,rfl,rfl,hb⟩;exact⟨_,rfl,hb,rfl,Ae hbx' hb⟩
      case refine_9=>
       have k7:(sp 7)=.int .i64 K2:=(hdp 7 (mq (by kernel_rfl))).2
       with_reducible refine Ad ?_ ?_
       all_goals simp[Region.wanted,yielded,execOp,Act.eval,Act.put,go_sem,k7,hE]
      all_goals ((with_reducible refine Ad ?_ ?_);all_goals first|(simp only[Region.wanted];done)|simp[Region.wanted,yielded,execOp,Act.eval,Act.put,go_sem])
     .intro sp w3 hsp hb;have HG3_:=Aa (HG2.out.below hb);have HP3_:=Aa (HP2.out.below hb);have B3_:=Aa (Ae B2.out hb);clear HG2 HP2 B2;clear hsp hb hE;simp only[Am,Nat.reduceAdd];generalize sp 5=y5,sp 6=y6,sp 7=y7 at *
      go_simp
      go_wp2_with fail
      refine(Cd (n:=X) _ HX.out).mono ?_;rintro en ws1 ⟨_,rfl,h9,b9⟩;have Nas1:=Aa h9;clear h9;have HGs1:=Aa (HG3_.out.below b9);have HPs1:=Aa (HP3_.out.below b9);have Bs1:=Aa (Ae B3_.out b9);clear HG3_ HP3_ B3_;clear b9
      go_wp2_with fail
      refine(Cd (n:=S) _ HSl.out).mono ?_;rintro en ws2 ⟨_,rfl,h9,b9⟩;have Nbs2:=Aa h9;clear h9;have HGs2:=Aa (HGs1.out.below b9);have HPs2:=Aa (HPs1.out.below b9);have Bs2:=Aa (Ae Bs1.out b9);have Nas2:=Aa (Nas1.out.below b9);clear HGs1 HPs1 Bs1 Nas1;clear b9
      go_wp2_with fail
      refine(Cd (n:=R) _ HRl.out).mono ?_;rintro en ws3 ⟨_,rfl,h9,b9⟩;have Ncs3:=Aa h9;clear h9;have HGs3:=Aa (HGs2.out.below b9);have HPs3:=Aa (HPs2.out.below b9);have Bs3:=Aa (Ae Bs2.out b9);have Nas3:=Aa (Nas2.out.below b9);have Nbs3:=Aa (Nbs2.out.below b9);clear HGs2 HPs2 Bs2 Nas2 Nbs2;clear b9
      go_wp2_with fail
      refine(Op HGs3.out HPs3.out Nas3.out Nbs3.out Ncs3.out (by decide) (by decide) (by decide) (by decide) (by omega) HNL.out HNE.out HA1.out).mono ?_;rintro en ws4 ⟨_,rfl,rfl,b9⟩;have HGs4:=Aa (HGs3.out.below b9);have HPs4:=Aa (HPs3.out.below b9);have Bs4:=Aa (Ae Bs3.out b9);have Nas4:=Aa (Nas3.out.below b9);have Nbs4:=Aa (Nbs3.out.below b9);have Ncs4:=Aa (Ncs3.out.below b9);clear HGs3 HPs3 Bs3 Nas3 Nbs3 Ncs3;clear b9;clear Nas4 Nbs4 Ncs4
      go_wp2_with fail
      refine(Cd (n:=X) _ HX.out).mono ?_;rintro en ws5 ⟨_,rfl,h9,b9⟩;have Nas5:=Aa h9;clear h9;have HGs5:=Aa (HGs4.out.below b9);have HPs5:=Aa (HPs4.out.below b9);have Bs5:=Aa (Ae Bs4.out b9);clear HGs4 HPs4 Bs4;clear b9
      go_wp2_with fail
      refine(Cd (n:=S) _ HSl.out).mono ?_;rintro en ws6 ⟨_,rfl,h9,b9⟩;have Nbs6:=Aa h9;clear h9;have HGs6:=Aa (HGs5.out.below b9);have HPs6:=Aa (HPs5.out.below b9);have Bs6:=Aa (Ae Bs5.out b9);have Nas6:=Aa (Nas5.out.below b9);clear HGs5 HPs5 Bs5 Nas5;clear b9
      go_wp2_with fail
      refine(Yt HGs6.out HPs6.out Nas6.out Nbs6.out (by decide) (by decide) (by decide) (by omega) HNB.out HNE.out HA2.out).mono ?_;rintro en ws7 ⟨_,rfl,rfl,b9⟩;have HGs7:=Aa (HGs6.out.below b9);have HPs7:=Aa (HPs6.out.below b9);have Bs7:=Aa (Ae Bs6.out b9);have Nas7:=Aa (Nas6.out.below b9);have Nbs7:=Aa (Nbs6.out.below b9);clear HGs6 HPs6 Bs6 Nas6 Nbs6;clear b9;clear Nas7 Nbs7
      go_wp2_with fail
      refine(Vg HGs7.out HPs7.out (by decide)).mono ?_;rintro en ws8 ⟨rfl,b9⟩;rw[HAL.out];have HGs8:=Aa (HGs7.out.below b9);have HPs8:=Aa (HPs7.out.below b9);have Bs8:=Aa (Ae Bs7.out b9);clear HGs7 HPs7 Bs7;clear b9;go_wp2;go_ret;exact⟨rfl,Bs8.out⟩
end Go.Proofs.YtnbmfaihlefgfaaGreatDoor
