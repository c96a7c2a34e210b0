/- The document's Right and Sign. -/
import Derived.Test.YtokhckjemidbpaaGreatDoorSvExact
set_option maxRecDepth 1000000
set_option maxHeartbeats 16000000
set_option linter.all false
namespace Go.Proofs.YtokhckjemidbpaaGreatDoor
open Go Go.RowKit Go.Proofs.YtokhckjemidbpaaGreatDoor.Flow
theorem Wl {w:World}{q:Option Addr}{m d N:Nat}(h:Bi w q m d N):m=0 ↔ N=0:=by
 rw[Ch h];exact⟨fun h0=>by have:=(Bg N 0).1 (by omega);simpa using this,fun h0=>by subst h0;decide⟩
theorem Po {w:World}{v u:Value}{P Q G H X:Nat}(h:Cb P Q G H v w)(hu:Al X u w)(lX:Ao X<=100000)(lQ:Ao Q<=100000) :
  Calls Tryz.prog 19 #[v,u] w fun e w'=>e=.returned (.bool (decide (0<X/\X<Q)))/\Below w.heap.size w w':=by
 obtain⟨p0,n0,c0,p1,n1,c1,p2,n2,c2,p3,n3,c3,rfl,h0,h1,h2,h3⟩:=h.ex;have hbx:Below w.heap.size w (w.alloc (.cells #[.slice p0 n0 c0,.slice p1 n1 c1,.slice p2 n2 c2,.slice p3 n3 c3] 30)):=Bx;have hbo:=Cu.made 30 w (.slice p0 n0 c0) (.slice p1 n1 c1) (.slice p2 n2 c2) (.slice p3 n3 c3);obtain⟨wa,hwa⟩:∃wa,w.alloc (.cells #[.slice p0 n0 c0,.slice p1 n1 c1,.slice p2 n2 c2,.slice p3 n3 c3] 30)=wa:=⟨_,rfl⟩
 rw[hwa]at hbx hbo
 have HB:=Ab hbx;have HBX:=Ab hbo;have HV:Aa (Cb P Q G H (.agg #[.slice p0 n0 c0,.slice p1 n1 c1,.slice p2 n2 c2,.slice p3 n3 c3]) wa):=⟨⟨p0,n0,c0,p1,n1,c1,p2,n2,c2,p3,n3,c3,rfl,h0.below hbx,h1.below hbx,h2.below hbx,h3.below hbx⟩⟩
 obtain⟨qx,mx,dx,rfl,hx⟩:=hu;have hmz:=Wl hx;have hml:=Ch hx;have HX:=Ab (Al.of (hx.below hbx));have HQ:=Ab (Al.of (h1.below hbx));have g1:=HBX.out.cells.2.1;obtain⟨RT,hRT⟩:∃A,decide (0<X/\X<Q)=A:=⟨_,rfl⟩
 have HRT:=Ab hRT;rw[hRT];clear hRT
 by_cases h0:mx=0
 .have HF:Aa (RT=false):=⟨by rw[<-HRT.out];exact decide_eq_false (by have:=hmz.1 h0;omega)⟩
  have hm0:¬(0:Int)<mx:=by omega
  clear h h1 h2 h3 hbx hbo hx hmz hml h0;go_enter Tryz.func19,Tryz.ntmps19;go_wp2;go_ret;exact⟨by rw[HF.out];rfl,HB.out⟩
 .have hm0:(0:Int)<mx:=by omega
  obtain⟨KC,hKC⟩:∃K,Bo X Q=K:=⟨_,rfl⟩
  obtain⟨ANS,hA⟩:∃A,decide (KC<0)=A:=⟨_,rfl⟩
  have HF:Aa (RT=ANS):=⟨by
   rw[<-HRT.out,<-hA,<-hKC];have hX0:X≠0:=fun h=>h0 (hmz.2 h)
   exact decide_eq_decide.2 ⟨fun h=>Jd.2 h.2,fun h=>⟨by omega,Jd.1 h⟩⟩⟩
  have HKC:=Ab hKC;have HL:Aa (Ao X<=1000000/\Ao Q<=1000000):=⟨by omega,by omega⟩
  clear h h1 h2 h3 hbx hbo hx hmz hml h0 hKC;go_enter Tryz.func19,Tryz.ntmps19
  go_wp2_with fail
  refine(Gs HX.out HQ.out HL.out.1 HL.out.2).mono ?_;rintro en w1 ⟨_,rfl,rfl,hb1⟩;rw[HKC.out];have HB1:=Ab (Ae HB.out hb1);clear hb1 g1;go_wp2;go_ret;exact⟨by rw[HF.out];rfl,HB1.out⟩
theorem aI {w:World}{v u:Value}{P Q G H X nm cm:Nat}{pm:Option Addr}{msg:List Nat}(h:Cb P Q G H v w)(hu:Al X u w)(hX:X<Q)(hG:G<P)(hQ:2<=Q)(hPs:Ak P<=16)(hQs:Ak Q<=16)(hm:Ax w ⟨pm,nm,cm,msg⟩)(hz:pm=none->cm=0)(hn:nm<=1000) :
  Calls Tryz.prog 22 #[v,u,.slice pm nm cm] w fun e w'=>∃x,e=.returned x/\Bp 0 (Lv P Q G X msg) x w'/\Below w.heap.size w w':=by
 obtain⟨p0,n0,c0,p1,n1,c1,p2,n2,c2,p3,n3,c3,rfl,h0,h1,h2,h3⟩:=h.ex;have hbx:Below w.heap.size w (w.alloc (.cells #[.slice p0 n0 c0,.slice p1 n1 c1,.slice p2 n2 c2,.slice p3 n3 c3] 30)):=Bx;have hbo:=Cu.made 30 w (.slice p0 n0 c0) (.slice p1 n1 c1) (.slice p2 n2 c2) (.slice p3 n3 c3);obtain⟨wa,hwa⟩:∃wa,w.alloc (.cells #[.slice p0 n0 c0,.slice p1 n1 c1,.slice p2 n2 c2,.slice p3 n3 c3] 30)=wa:=⟨_,rfl⟩
 rw[hwa]at hbx hbo
 have HB:=Ab hbx;have HBX:=Ab hbo;have HV:Aa (Cb P Q G H (.agg #[.slice p0 n0 c0,.slice p1 n1 c1,.slice p2 n2 c2,.slice p3 n3 c3]) wa):=⟨⟨p0,n0,c0,p1,n1,c1,p2,n2,c2,p3,n3,c3,rfl,h0.below hbx,h1.below hbx,h2.below hbx,h3.below hbx⟩⟩
 obtain⟨qx,mx,dx,rfl,hx⟩:=hu;obtain⟨b3,hb3⟩:∃b,w.heap.size=b:=⟨_,rfl⟩
 have HBX:Aa (Cu 30 wa b3 (.slice p0 n0 c0) (.slice p1 n1 c1) (.slice p2 n2 c2) (.slice p3 n3 c3)):=⟨by rw[<-hb3];exact HBX.out⟩
 have HX:=Ab (Al.of (hx.below hbx));have HM:=Ab (hm.below hbx);have HZM:=Ab hz;have HNM:=Ab hn;have HQB:=Ab (Al.of (h1.below hbx));have HGB:=Ab (Al.of (h2.below hbx));have HPf:=Ab hPs;have HQf:=Ab hQs;have HQk:Aa (Ak Q<=1000):=⟨by omega⟩
 have HPl:Aa (Ao P<=100000):=⟨Gl hPs⟩
 have HQl:Aa (Ao Q<=100000):=⟨Gl hQs⟩
 have HQl2:Aa (Ao Q<=900000):=⟨by have:=HQl.out;omega⟩
 have HQ0:Aa (0<Q):=⟨by omega⟩
 have HP0:Aa (0<P):=⟨by omega⟩
 have HGl:Aa (Ao G<=100000):=⟨By hG hPs⟩
 have HXb:Aa (Ao X<=100000):=⟨By hX hQs⟩
 have HXl:Aa (X<B8 (Ak Q)):=⟨Nat.lt_trans hX (Dj Q)⟩
 have HWp:Aa (0<Ak Q):=⟨Nat.pos_of_ne_zero fun h=>by
  have h3:=Dj Q;rw[h]at h3
  have h5:Q<1:=h3;omega⟩
 obtain⟨SB,hSB⟩:∃S,Lv P Q G X msg=S:=⟨_,rfl⟩
 have HSB0:=Ab hSB;obtain⟨EE,hEE⟩:∃E,(Ex (Az X (Ak Q)) msg ((64+31)/32)).take 64=E:=⟨_,rfl⟩
 have HEE:=Ab hEE;have HE8:Aa (Au EE):=⟨fun y hy=>by rw[<-hEE]at hy;exact Lj _ _ _ y (List.mem_of_mem_take hy)⟩
 have HEl:Aa (EE.length<=1000):=⟨by rw[<-hEE];exact Dn (List.length_take_le _ _) (by decide)⟩
 obtain⟨DN,hDD⟩:∃ZZ,be EE=ZZ:=⟨_,rfl⟩
 have HDD:=Ab hDD;have HDl:Aa (Ao DN<=900000):=⟨by
  have h1:=Si HE8.out;have h2:=HEl.out;rw[hDD]at h1
  omega⟩
 obtain⟨Z,hZ⟩:∃ZZ,DN%Q=ZZ:=⟨_,rfl⟩
 have HZ:=Ab hZ;have HZl:Aa (Ao Z<=100000):=⟨By (by rw[<-hZ];exact Nat.mod_lt _ HQ0.out) hQs⟩
 have HKD0:Aa (Sw Q X msg=if Z=0 then 1 else Z):=⟨by
  have e:eP Q X msg=DN:=by rw[<-hDD,<-hEE];rfl
  unfold Sw;rw[e,hZ]⟩
 rw[hSB];clear h h0 h1 h2 h3 hbx hbo hx hX hG hQ hPs hQs hm hz hn hSB hEE hDD hZ;go_enter Tryz.func22,Tryz.ntmps22;go_wp2;clear hwa hb3;refine Ah (by kernel_rfl) (by kernel_rfl)
  [some (.agg #[.slice p0 n0 c0,.slice p1 n1 c1,.slice p2 n2 c2,.slice p3 n3 c3]),some (.slice qx mx dx),none,some (.slice pm nm cm),none,none,some (.pointer (some ⟨b3,1,none⟩)),some (.slice p1 n1 c1),none,none]
  [false,false,true,false,true,true,false,false,true,true] rfl
  (fun w1 w2=>Below w1.heap.size w1 w2)
  (fun _ w'=>Below wa.heap.size wa w')
  (fun i v w'=>match i with
   | 2=>Gy (Ak Q) (Az X (Ak Q)) v w'
   | 4=>Bp 0 EE v w'
   | 5=>Al DN v w'
   | 8=>Al Z v w'
   | 9=>Al Z v w'
   | _=>True)
  ?_ (Bb _ _).drew ?_ ?_
 .intro i v w1 w2 hf hb;split at hf
  .exact hf.below hb
  .exact hf.below hb
  .exact hf.below hb
  .exact hf.below hb
  .exact hf.below hb
  .trivial
 .simp only[Ba,Nat.reduceAdd];refine⟨?_,?_,?_,?_,?_,?_,?_,?_,?_,?_,trivial⟩
  all_goals intro D sp w' hD hW hdp hbx'
  case refine_1=>
   have hB4:=HBX.out.below hbx' HBX.out.lt;have g0:=hB4.cells.1;have g1:=hB4.cells.2.1;have g2:=hB4.cells.2.2.1;have g3:=hB4.cells.2.2.2
   with_reducible refine Ad ?_ ?_
   all_goals simp[Region.wanted,yielded,execOp,Act.eval,Act.put,go_sem,g0,g1,g2,g3]
  case refine_3=>
   (with_reducible refine Ac (w1:=w') (f := 34) (args:=#[.agg #[.slice p0 n0 c0,.slice p1 n1 c1,.slice p2 n2 c2,.slice p3 n3 c3],.slice qx mx dx]) ?_ ?_ ?_)
   .simp[Region.wanted,yielded,Act.put,go_sem]
   .simp[Act.eval,Act.put,go_sem]
   .refine(Ep (HV.out.below hbx') (HX.out.below hbx') HQl.out HQf.out (HXl.out)).mono ?_;rintro en w9 ⟨g9,rfl,hu,_,hb⟩;exact⟨_,rfl,hb,⟨g9,rfl,hu⟩,Ae hbx' hb⟩
  case refine_5=>
   have hxa:∃g,sp 2=.slice (some ⟨g,0,none⟩) (Ak Q) (Ak Q)/\Bm w' g 5 .u8 (Az X (Ak Q)):=(hdp 2 (mq (by kernel_rfl))).2
   (with_reducible refine Ay hxa fun ga ha1=>?_)
   have ea:=ha1.1
   (with_reducible refine Ac (w1:=w') (f := 73) (args:=#[.slice (some ⟨ga,0,none⟩) (Ak Q) (Ak Q),.slice pm nm cm,.int .i64 (64:Nat)]) ?_ ?_ ?_)
   .simp only[Region.wanted]
   .simp[Act.eval,Act.put,go_sem,ea]
   .refine(Ru w' (some ⟨ga,0,none⟩) (Ak Q) (Ak Q) (Az X (Ak Q)) pm nm cm msg 64 (Gw ha1.2 HQk.out) (fun h=>by cases h) (HM.out.below hbx') HZM.out HQk.out HNM.out (by decide)).mono ?_;rintro en w9 ⟨u,rfl,hu,hb⟩;rw[HEE.out]at hu
    exact⟨u,rfl,hb,hu.zero,Ae hbx' hb⟩
  case refine_6=>
   have hf:Bp 0 EE (sp 4) w':=(hdp 4 (mq (by kernel_rfl))).2
   (with_reducible refine hf.elim (fun p9 c9 hv hr _ _=>?_))
   (with_reducible refine Ac (w1:=w') (f := 72) (args:=#[.slice p9 EE.length c9]) ?_ ?_ ?_)
   .simp only[Region.wanted]
   .simp[Act.eval,Act.put,go_sem,hv]
   .refine(Mc w' p9 EE.length c9 EE hr HE8.out HEl.out).mono ?_;rintro en w9 ⟨q9,m9,d9,rfl,hu,hb,_⟩;rw[HDD.out]at hu
    exact⟨_,rfl,hb,Al.of hu,Ae hbx' hb⟩
  case refine_8=>
   have hB4:=HBX.out.below hbx' HBX.out.lt;have g1:=hB4.cells.2.1
   with_reducible refine Ad ?_ ?_
   all_goals simp[Region.wanted,yielded,execOp,Act.eval,Act.put,go_sem,g1]
  case refine_9=>
   have k5:Al DN (sp 5) w':=(hdp 5 (mq (by kernel_rfl))).2
   (with_reducible refine Ac (w1:=w') (f := 71) (args:=#[sp 5,.slice p1 n1 c1]) ?_ ?_ ?_)
   .simp[Region.wanted,yielded,Act.put,go_sem]
   .simp[Act.eval,Act.put,go_sem]
   .refine(Gv k5 (HQB.out.below hbx') HDl.out HQl2.out HQ0.out).mono ?_;rintro en w9 ⟨u,rfl,hu,hb⟩;rw[HZ.out]at hu
    exact⟨u,rfl,hb,hu,Ae hbx' hb⟩
  case refine_10=>
   have k8:Al Z (sp 8) w':=(hdp 8 (mq (by kernel_rfl))).2
   (with_reducible refine Ai (w1:=w') (v:=sp 8) ?_ ?_ ?_)
   .simp[Region.wanted,yielded,Act.put,go_sem]
   .simp[execOp,Act.eval,Act.put,go_sem]
   .exact⟨Bb _ _,k8,hbx'⟩
  all_goals ((with_reducible refine Ad ?_ ?_);all_goals first|(simp only[Region.wanted];done)|simp[Region.wanted,yielded,execOp,Act.eval,Act.put,go_sem])
 .intro sp w1 hsp hb;obtain⟨qk,mk,dk,ek,hk⟩:Al Z (sp 9) w1:=hsp 9 rfl;have hmz:=Wl hk;have HK1:=Ab (Al.of hk);have HBX:=Ab (HBX.out.below hb HBX.out.lt);clear hsp hk;replace HX:=Ab (HX.out.below hb);replace HV:=Ab (HV.out.below hb);replace HM:=Ab (HM.out.below hb);replace HQB:=Ab (HQB.out.below hb);replace HGB:=Ab (HGB.out.below hb);replace HB:=Ab (Ae HB.out hb);clear hb;simp only[An,Nat.reduceAdd];rw[ek];clear ek;generalize sp 2=y2,sp 4=y4,sp 5=y5,sp 8=y8 at *
  go_simp
  by_cases hz:mk=0
  .have hm0:((mk:Int)==0)=true:=by rw[hz];rfl
   have HKD:Aa (Sw Q X msg=1):=⟨by rw[HKD0.out,if_pos (hmz.1 hz)]⟩
   have HKl:Aa (Ao 1<=100000):=⟨by decide⟩
   clear hz hmz
   go_wp2_with fail
   refine(Fb 1 w1 (by decide)).mono ?_;rintro en wk ⟨qk',mk',dk',rfl,hn1,hb,_⟩;have HK:=Ab (Al.of hn1);have HBX:=Ab (HBX.out.below hb HBX.out.lt);clear hn1 hm0 HK1;replace HX:=Ab (HX.out.below hb);replace HV:=Ab (HV.out.below hb);replace HM:=Ab (HM.out.below hb);replace HQB:=Ab (HQB.out.below hb);replace HGB:=Ab (HGB.out.below hb);replace HB:=Ab (Ae HB.out hb);clear hb;obtain⟨GK,hGK⟩:∃ZZ,G^1%P=ZZ:=⟨_,rfl⟩
   obtain⟨Y,hYE⟩:∃ZZ,G^X%P=ZZ:=⟨_,rfl⟩
   obtain⟨CC,hCC⟩:∃ZZ,Hd P Q GK Y msg=ZZ:=⟨_,rfl⟩
   obtain⟨MM,hMM⟩:∃ZZ,CC*X%Q=ZZ:=⟨_,rfl⟩
   obtain⟨SS,hSS⟩:∃ZZ,(1+MM)%Q=ZZ:=⟨_,rfl⟩
   have HSB:Aa (Az CC (Ak Q)++Az SS (Ak Q)=SB):=⟨by
    rw[<-HSB0.out];unfold Lv jS jT;rw[HKD.out,hGK,hYE,hCC,hMM,hSS]⟩
   have HGK:=Ab hGK;have HYE:=Ab hYE;have HCC:=Ab hCC;have HMM:=Ab hMM;have HSS:=Ab hSS;have hlq:=Dj Q;have HGKl:Aa (GK<P):=⟨by rw[<-hGK];exact Nat.mod_lt _ HP0.out⟩
   have HYl:Aa (Y<P):=⟨by rw[<-hYE];exact Nat.mod_lt _ HP0.out⟩
   have hcq:CC<Q:=by rw[<-hCC];exact Iw HQ0.out
   have hsq:SS<Q:=by rw[<-hSS];exact Nat.mod_lt _ HQ0.out
   have hmq:MM<Q:=by rw[<-hMM];exact Nat.mod_lt _ HQ0.out
   have HCl:Aa (CC<B8 (Ak Q)):=⟨Nat.lt_trans hcq hlq⟩
   have HSl:Aa (SS<B8 (Ak Q)):=⟨Nat.lt_trans hsq hlq⟩
   have HCb:Aa (Ao CC<=100000):=⟨By hcq HQf.out⟩
   have HMb:Aa (Ao MM<=100000):=⟨By hmq HQf.out⟩
   clear hGK hYE hCC hMM hSS hlq hcq hsq hmq;go_wp2;refine Ah (by kernel_rfl) (by kernel_rfl)
    [some (.agg #[.slice p0 n0 c0,.slice p1 n1 c1,.slice p2 n2 c2,.slice p3 n3 c3]),some (.agg #[.slice p0 n0 c0,.slice p1 n1 c1,.slice p2 n2 c2,.slice p3 n3 c3]),some (.pointer (some ⟨b3,2,none⟩)),some (.slice p2 n2 c2),some (.slice qk' mk' dk'),none,some (.agg #[.slice p0 n0 c0,.slice p1 n1 c1,.slice p2 n2 c2,.slice p3 n3 c3]),some (.pointer (some ⟨b3,2,none⟩)),some (.slice p2 n2 c2),some (.slice qx mx dx),none,some (.slice pm nm cm),none,none]
    [false,false,false,false,false,true,false,false,false,false,true,false,true,true] rfl
    (fun w1 w2=>Below w1.heap.size w1 w2)
    (fun _ w'=>Below wk.heap.size wk w')
    (fun i v w'=>match i with
     | 5=>Al GK v w'
     | 10=>Al Y v w'
     | 12=>Al CC v w'
     | 13=>Al CC v w'
     | _=>True)
    ?_ (Bb _ _).drew ?_ ?_
   .intro i v w1 w2 hf hb;split at hf
    .exact hf.below hb
    .exact hf.below hb
    .exact hf.below hb
    .exact hf.below hb
    .trivial
   .simp only[Ba,Nat.reduceAdd];refine⟨?_,?_,?_,?_,?_,?_,?_,?_,?_,?_,?_,?_,?_,?_,trivial⟩
    all_goals intro D sp w' hD hW hdp hbx'
    case refine_1|refine_2|refine_7=>
     have hB4:=HBX.out.below hbx' HBX.out.lt;have g0:=hB4.cells.1;have g1:=hB4.cells.2.1;have g2:=hB4.cells.2.2.1;have g3:=hB4.cells.2.2.2
     with_reducible refine Ad ?_ ?_
     all_goals simp[Region.wanted,yielded,execOp,Act.eval,Act.put,go_sem,g0,g1,g2,g3]
    case refine_4|refine_9=>
     have hB4:=HBX.out.below hbx' HBX.out.lt;have g2:=hB4.cells.2.2.1
     with_reducible refine Ad ?_ ?_
     all_goals simp[Region.wanted,yielded,execOp,Act.eval,Act.put,go_sem,g2]
    case refine_6=>
     (with_reducible refine Ac (w1:=w') (f := 74) (args:=#[.agg #[.slice p0 n0 c0,.slice p1 n1 c1,.slice p2 n2 c2,.slice p3 n3 c3],.slice p2 n2 c2,.slice qk' mk' dk']) ?_ ?_ ?_)
     .simp[Region.wanted,yielded,Act.put,go_sem]
     .simp[Act.eval,Act.put,go_sem]
     .refine(Gn (HV.out.below hbx') (HGB.out.below hbx') (HK.out.below hbx') HGl.out (HKl.out) HPl.out HP0.out).mono ?_;rintro en w9 ⟨u,rfl,hu,hb⟩;rw[HGK.out]at hu
      exact⟨u,rfl,hb,hu,Ae hbx' hb⟩
    case refine_11=>
     (with_reducible refine Ac (w1:=w') (f := 74) (args:=#[.agg #[.slice p0 n0 c0,.slice p1 n1 c1,.slice p2 n2 c2,.slice p3 n3 c3],.slice p2 n2 c2,.slice qx mx dx]) ?_ ?_ ?_)
     .simp[Region.wanted,yielded,Act.put,go_sem]
     .simp[Act.eval,Act.put,go_sem]
     .refine(Gn (HV.out.below hbx') (HGB.out.below hbx') (HX.out.below hbx') HGl.out (HXb.out) HPl.out HP0.out).mono ?_;rintro en w9 ⟨u,rfl,hu,hb⟩;rw[HYE.out]at hu
      exact⟨u,rfl,hb,hu,Ae hbx' hb⟩
    case refine_13=>
     have k5:Al GK (sp 5) w':=(hdp 5 (mq (by kernel_rfl))).2;have k10:Al Y (sp 10) w':=(hdp 10 (mq (by kernel_rfl))).2
     (with_reducible refine Ac (w1:=w') (f := 35) (args:=#[.agg #[.slice p0 n0 c0,.slice p1 n1 c1,.slice p2 n2 c2,.slice p3 n3 c3],sp 5,sp 10,.slice pm nm cm]) ?_ ?_ ?_)
     .simp[Region.wanted,yielded,Act.put,go_sem]
     .simp[Act.eval,Act.put,go_sem]
     .refine(Ll (HV.out.below hbx') k5 k10 HGKl.out HYl.out HPl.out HQl.out HQ0.out HPf.out (HM.out.below hbx') HZM.out HNM.out).mono ?_;rintro en w9 ⟨u,rfl,hu,hb⟩;rw[HCC.out]at hu
      exact⟨u,rfl,hb,hu,Ae hbx' hb⟩
    case refine_14=>
     have k12:Al CC (sp 12) w':=(hdp 12 (mq (by kernel_rfl))).2
     (with_reducible refine Ai (w1:=w') (v:=sp 12) ?_ ?_ ?_)
     .simp[Region.wanted,yielded,Act.put,go_sem]
     .simp[execOp,Act.eval,Act.put,go_sem]
     .exact⟨Bb _ _,k12,hbx'⟩
    all_goals ((with_reducible refine Ad ?_ ?_);all_goals first|(simp only[Region.wanted];done)|simp[Region.wanted,yielded,execOp,Act.eval,Act.put,go_sem])
   .intro sp w4 hsp hb;obtain⟨qc,mc,dc,ec,hc⟩:Al CC (sp 13) w4:=hsp 13 rfl;have HC:=Ab (Al.of hc);have HBX:=Ab (HBX.out.below hb HBX.out.lt);clear hsp hc;replace HX:=Ab (HX.out.below hb);replace HV:=Ab (HV.out.below hb);replace HM:=Ab (HM.out.below hb);replace HQB:=Ab (HQB.out.below hb);replace HGB:=Ab (HGB.out.below hb);replace HB:=Ab (Ae HB.out hb);replace HK:=Ab (HK.out.below hb);clear hb;simp only[An,Nat.reduceAdd];rw[ec];clear ec;generalize sp 5=y5,sp 10=y10,sp 12=y12 at *
    go_simp
    go_wp2;refine Ah (by kernel_rfl) (by kernel_rfl)
     [some (.slice qk' mk' dk'),some (.slice qc mc dc),some (.slice qx mx dx),some (.pointer (some ⟨b3,1,none⟩)),some (.slice p1 n1 c1),none,some (.pointer (some ⟨b3,1,none⟩)),some (.slice p1 n1 c1),none,none]
     [false,false,false,false,false,true,false,false,true,true] rfl
     (fun w1 w2=>Below w1.heap.size w1 w2)
     (fun _ w'=>Below w4.heap.size w4 w')
     (fun i v w'=>match i with
      | 5=>Al MM v w'
      | 8=>Al SS v w'
      | 9=>Al SS v w'
      | _=>True)
     ?_ (Bb _ _).drew ?_ ?_
    .intro i v w1 w2 hf hb;split at hf
     .exact hf.below hb
     .exact hf.below hb
     .exact hf.below hb
     .trivial
    .simp only[Ba,Nat.reduceAdd];refine⟨?_,?_,?_,?_,?_,?_,?_,?_,?_,?_,trivial⟩
     all_goals intro D sp w' hD hW hdp hbx'
     case refine_5|refine_8=>
      have hB4:=HBX.out.below hbx' HBX.out.lt;have g1:=hB4.cells.2.1
      with_reducible refine Ad ?_ ?_
      all_goals simp[Region.wanted,yielded,execOp,Act.eval,Act.put,go_sem,g1]
     case refine_6=>
      (with_reducible refine Ac (w1:=w') (f := 76) (args:=#[.slice qc mc dc,.slice qx mx dx,.slice p1 n1 c1]) ?_ ?_ ?_)
      .simp[Region.wanted,yielded,Act.put,go_sem]
      .simp[Act.eval,Act.put,go_sem]
      .refine(Kp (HC.out.below hbx') (HX.out.below hbx') (HQB.out.below hbx') HCb.out HXb.out HQl.out HQ0.out).mono ?_;rintro en w9 ⟨u,rfl,hu,hb⟩;rw[HMM.out]at hu
       exact⟨u,rfl,hb,hu,Ae hbx' hb⟩
     case refine_9=>
      have k5:Al MM (sp 5) w':=(hdp 5 (mq (by kernel_rfl))).2
      (with_reducible refine Ac (w1:=w') (f := 75) (args:=#[.slice qk' mk' dk',sp 5,.slice p1 n1 c1]) ?_ ?_ ?_)
      .simp[Region.wanted,yielded,Act.put,go_sem]
      .simp[Act.eval,Act.put,go_sem]
      .refine(aT (HK.out.below hbx') k5 (HQB.out.below hbx') HKl.out HMb.out HQl.out HQ0.out).mono ?_;rintro en w9 ⟨u,rfl,hu,hb⟩;rw[HSS.out]at hu
       exact⟨u,rfl,hb,hu,Ae hbx' hb⟩
     case refine_10=>
      have k8:Al SS (sp 8) w':=(hdp 8 (mq (by kernel_rfl))).2
      (with_reducible refine Ai (w1:=w') (v:=sp 8) ?_ ?_ ?_)
      .simp[Region.wanted,yielded,Act.put,go_sem]
      .simp[execOp,Act.eval,Act.put,go_sem]
      .exact⟨Bb _ _,k8,hbx'⟩
     all_goals ((with_reducible refine Ad ?_ ?_);all_goals first|(simp only[Region.wanted];done)|simp[Region.wanted,yielded,execOp,Act.eval,Act.put,go_sem])
    .intro sp w5 hsp hb;obtain⟨qs,ms,ds,es,hs⟩:Al SS (sp 9) w5:=hsp 9 rfl;have HS:=Ab (Al.of hs);have HBX:=Ab (HBX.out.below hb HBX.out.lt);clear hsp hs;replace HX:=Ab (HX.out.below hb);replace HV:=Ab (HV.out.below hb);replace HM:=Ab (HM.out.below hb);replace HQB:=Ab (HQB.out.below hb);replace HGB:=Ab (HGB.out.below hb);replace HB:=Ab (Ae HB.out hb);replace HC:=Ab (HC.out.below hb);clear hb;simp only[An,Nat.reduceAdd];rw[es];clear es;generalize sp 5=y5,sp 8=y8 at *
     go_simp
     go_wp2;refine Ah (by kernel_rfl) (by kernel_rfl)
      [some (.agg #[.slice p0 n0 c0,.slice p1 n1 c1,.slice p2 n2 c2,.slice p3 n3 c3]),some (.slice qc mc dc),none,some (.agg #[.slice p0 n0 c0,.slice p1 n1 c1,.slice p2 n2 c2,.slice p3 n3 c3]),some (.slice qs ms ds),none,none,none]
      [false,false,true,false,false,true,true,true] rfl
      (fun w1 w2=>Below w1.heap.size w1 w2)
      (fun _ w'=>Below w5.heap.size w5 w')
      (fun i v w'=>match i with
       | 2=>Gy (Ak Q) (Az CC (Ak Q)) v w'
       | 5=>Gy (Ak Q) (Az SS (Ak Q)) v w'
       | 6=>Bp 0 SB v w'
       | 7=>Bp 0 SB v w'
       | _=>True)
      ?_ (Bb _ _).drew ?_ ?_
     .intro i v w1 w2 hf hb;split at hf
      .exact hf.below hb
      .exact hf.below hb
      .exact hf.below hb
      .exact hf.below hb
      .trivial
     .simp only[Ba,Nat.reduceAdd];refine⟨?_,?_,?_,?_,?_,?_,?_,?_,trivial⟩
      all_goals intro D sp w' hD hW hdp hbx'
      case refine_1|refine_4=>
       have hB4:=HBX.out.below hbx' HBX.out.lt;have g0:=hB4.cells.1;have g1:=hB4.cells.2.1;have g2:=hB4.cells.2.2.1;have g3:=hB4.cells.2.2.2
       with_reducible refine Ad ?_ ?_
       all_goals simp[Region.wanted,yielded,execOp,Act.eval,Act.put,go_sem,g0,g1,g2,g3]
      case refine_3=>
       (with_reducible refine Ac (w1:=w') (f := 34) (args:=#[.agg #[.slice p0 n0 c0,.slice p1 n1 c1,.slice p2 n2 c2,.slice p3 n3 c3],.slice qc mc dc]) ?_ ?_ ?_)
       .simp[Region.wanted,yielded,Act.put,go_sem]
       .simp[Act.eval,Act.put,go_sem]
       .refine(Ep (HV.out.below hbx') (HC.out.below hbx') HQl.out HQf.out (HCl.out)).mono ?_;rintro en w9 ⟨g9,rfl,hu,_,hb⟩;exact⟨_,rfl,hb,⟨g9,rfl,hu⟩,Ae hbx' hb⟩
      case refine_6=>
       (with_reducible refine Ac (w1:=w') (f := 34) (args:=#[.agg #[.slice p0 n0 c0,.slice p1 n1 c1,.slice p2 n2 c2,.slice p3 n3 c3],.slice qs ms ds]) ?_ ?_ ?_)
       .simp[Region.wanted,yielded,Act.put,go_sem]
       .simp[Act.eval,Act.put,go_sem]
       .refine(Ep (HV.out.below hbx') (HS.out.below hbx') HQl.out HQf.out (HSl.out)).mono ?_;rintro en w9 ⟨g9,rfl,hu,_,hb⟩;exact⟨_,rfl,hb,⟨g9,rfl,hu⟩,Ae hbx' hb⟩
      case refine_7=>
       have hxa:∃g,sp 2=.slice (some ⟨g,0,none⟩) (Ak Q) (Ak Q)/\Bm w' g 5 .u8 (Az CC (Ak Q)):=(hdp 2 (mq (by kernel_rfl))).2
       (with_reducible refine Ay hxa fun ga ha1=>?_)
       have ea:=ha1.1;have hxb:∃g,sp 5=.slice (some ⟨g,0,none⟩) (Ak Q) (Ak Q)/\Bm w' g 5 .u8 (Az SS (Ak Q)):=(hdp 5 (mq (by kernel_rfl))).2
       (with_reducible refine Ay hxb fun gb hb1=>?_)
       have eb:=hb1.1
       (with_reducible refine Lb (n:=Ak Q) ha1.2 (Bq _ _).symm (Gw hb1.2 HQk.out).row HWp.out (show Ak Q+Ak Q<=140737488355328 by have:=HQf.out;omega) 23 (fun v' w5 hr ho hb=>?_))
       (with_reducible refine Ai (v:=v') (w1:=w5) ?_ ?_ ?_)
       .simp only[Region.wanted]
       .simp[execOp,resolve,invoke,builtin,Act.eval,Act.put,ea,eb,hr,Result.andThen]
       .have h9:=(Bp.mk ho).zero;rw[HSB.out]at h9
        exact⟨hb,h9,Ae hbx' hb⟩
      case refine_8=>
       have k6:Bp 0 SB (sp 6) w':=(hdp 6 (mq (by kernel_rfl))).2
       (with_reducible refine Ai (w1:=w') (v:=sp 6) ?_ ?_ ?_)
       .simp[Region.wanted,yielded,Act.put,go_sem]
       .simp[execOp,Act.eval,Act.put,go_sem]
       .exact⟨Bb _ _,k6,hbx'⟩
      all_goals ((with_reducible refine Ad ?_ ?_);all_goals first|(simp only[Region.wanted];done)|simp[Region.wanted,yielded,execOp,Act.eval,Act.put,go_sem])
     .intro sp w6 hsp hb;have HO:Aa (Bp 0 SB (sp 7) w6):=⟨hsp 7 rfl⟩
      have HBf:=Ab (Ae HB.out hb);clear hsp hb;simp only[An,Nat.reduceAdd];generalize sp 2=y2,sp 5=y5,sp 6=y6,sp 7=y7 at *
      go_simp
      go_wp2;go_ret;exact⟨_,rfl,HO.out,HBf.out⟩
  .have hm0:((mk:Int)==0)=false:=by rw[beq_eq_false_iff_ne];omega
   have HKD:Aa (Sw Q X msg=Z):=⟨by rw[HKD0.out,if_neg (fun h=>hz (hmz.2 h))]⟩
   have HKl:=Ab HZl.out;have HK:=Ab HK1.out;clear hz hmz HK1;obtain⟨GK,hGK⟩:∃ZZ,G^Z%P=ZZ:=⟨_,rfl⟩
   obtain⟨Y,hYE⟩:∃ZZ,G^X%P=ZZ:=⟨_,rfl⟩
   obtain⟨CC,hCC⟩:∃ZZ,Hd P Q GK Y msg=ZZ:=⟨_,rfl⟩
   obtain⟨MM,hMM⟩:∃ZZ,CC*X%Q=ZZ:=⟨_,rfl⟩
   obtain⟨SS,hSS⟩:∃ZZ,(Z+MM)%Q=ZZ:=⟨_,rfl⟩
   have HSB:Aa (Az CC (Ak Q)++Az SS (Ak Q)=SB):=⟨by
    rw[<-HSB0.out];unfold Lv jS jT;rw[HKD.out,hGK,hYE,hCC,hMM,hSS]⟩
   have HGK:=Ab hGK;have HYE:=Ab hYE;have HCC:=Ab hCC;have HMM:=Ab hMM;have HSS:=Ab hSS;have hlq:=Dj Q;have HGKl:Aa (GK<P):=⟨by rw[<-hGK];exact Nat.mod_lt _ HP0.out⟩
   have HYl:Aa (Y<P):=⟨by rw[<-hYE];exact Nat.mod_lt _ HP0.out⟩
   have hcq:CC<Q:=by rw[<-hCC];exact Iw HQ0.out
   have hsq:SS<Q:=by rw[<-hSS];exact Nat.mod_lt _ HQ0.out
   have hmq:MM<Q:=by rw[<-hMM];exact Nat.mod_lt _ HQ0.out
   have HCl:Aa (CC<B8 (Ak Q)):=⟨Nat.lt_trans hcq hlq⟩
   have HSl:Aa (SS<B8 (Ak Q)):=⟨Nat.lt_trans hsq hlq⟩
   have HCb:Aa (Ao CC<=100000):=⟨By hcq HQf.out⟩
   have HMb:Aa (Ao MM<=100000):=⟨By hmq HQf.out⟩
   clear hGK hYE hCC hMM hSS hlq hcq hsq hmq;go_wp2;refine Ah (by kernel_rfl) (by kernel_rfl)
    [some (.agg #[.slice p0 n0 c0,.slice p1 n1 c1,.slice p2 n2 c2,.slice p3 n3 c3]),some (.agg #[.slice p0 n0 c0,.slice p1 n1 c1,.slice p2 n2 c2,.slice p3 n3 c3]),some (.pointer (some ⟨b3,2,none⟩)),some (.slice p2 n2 c2),some (.slice qk mk dk),none,some (.agg #[.slice p0 n0 c0,.slice p1 n1 c1,.slice p2 n2 c2,.slice p3 n3 c3]),some (.pointer (some ⟨b3,2,none⟩)),some (.slice p2 n2 c2),some (.slice qx mx dx),none,some (.slice pm nm cm),none,none]
    [false,false,false,false,false,true,false,false,false,false,true,false,true,true] rfl
    (fun w1 w2=>Below w1.heap.size w1 w2)
    (fun _ w'=>Below w1.heap.size w1 w')
    (fun i v w'=>match i with
     | 5=>Al GK v w'
     | 10=>Al Y v w'
     | 12=>Al CC v w'
     | 13=>Al CC v w'
     | _=>True)
    ?_ (Bb _ _).drew ?_ ?_
   .intro i v w1 w2 hf hb;split at hf
    .exact hf.below hb
    .exact hf.below hb
    .exact hf.below hb
    .exact hf.below hb
    .trivial
   .simp only[Ba,Nat.reduceAdd];refine⟨?_,?_,?_,?_,?_,?_,?_,?_,?_,?_,?_,?_,?_,?_,trivial⟩
    all_goals intro D sp w' hD hW hdp hbx'
    case refine_1|refine_2|refine_7=>
     have hB4:=HBX.out.below hbx' HBX.out.lt;have g0:=hB4.cells.1;have g1:=hB4.cells.2.1;have g2:=hB4.cells.2.2.1;have g3:=hB4.cells.2.2.2
     with_reducible refine Ad ?_ ?_
     all_goals simp[Region.wanted,yielded,execOp,Act.eval,Act.put,go_sem,g0,g1,g2,g3]
    case refine_4|refine_9=>
     have hB4:=HBX.out.below hbx' HBX.out.lt;have g2:=hB4.cells.2.2.1
     with_reducible refine Ad ?_ ?_
     all_goals simp[Region.wanted,yielded,execOp,Act.eval,Act.put,go_sem,g2]
    case refine_6=>
     (with_reducible refine Ac (w1:=w') (f := 74) (args:=#[.agg #[.slice p0 n0 c0,.slice p1 n1 c1,.slice p2 n2 c2,.slice p3 n3 c3],.slice p2 n2 c2,.slice qk mk dk]) ?_ ?_ ?_)
     .simp[Region.wanted,yielded,Act.put,go_sem]
     .simp[Act.eval,Act.put,go_sem]
     .refine(Gn (HV.out.below hbx') (HGB.out.below hbx') (HK.out.below hbx') HGl.out (HKl.out) HPl.out HP0.out).mono ?_;rintro en w9 ⟨u,rfl,hu,hb⟩;rw[HGK.out]at hu
      exact⟨u,rfl,hb,hu,Ae hbx' hb⟩
    case refine_11=>
     (with_reducible refine Ac (w1:=w') (f := 74) (args:=#[.agg #[.slice p0 n0 c0,.slice p1 n1 c1,.slice p2 n2 c2,.slice p3 n3 c3],.slice p2 n2 c2,.slice qx mx dx]) ?_ ?_ ?_)
     .simp[Region.wanted,yielded,Act.put,go_sem]
     .simp[Act.eval,Act.put,go_sem]
     .refine(Gn (HV.out.below hbx') (HGB.out.below hbx') (HX.out.below hbx') HGl.out (HXb.out) HPl.out HP0.out).mono ?_;rintro en w9 ⟨u,rfl,hu,hb⟩;rw[HYE.out]at hu
      exact⟨u,rfl,hb,hu,Ae hbx' hb⟩
    case refine_13=>
     have k5:Al GK (sp 5) w':=(hdp 5 (mq (by kernel_rfl))).2;have k10:Al Y (sp 10) w':=(hdp 10 (mq (by kernel_rfl))).2
     (with_reducible refine Ac (w1:=w') (f := 35) (args:=#[.agg #[.slice p0 n0 c0,.slice p1 n1 c1,.slice p2 n2 c2,.slice p3 n3 c3],sp 5,sp 10,.slice pm nm cm]) ?_ ?_ ?_)
     .simp[Region.wanted,yielded,Act.put,go_sem]
     .simp[Act.eval,Act.put,go_sem]
     .refine(Ll (HV.out.below hbx') k5 k10 HGKl.out HYl.out HPl.out HQl.out HQ0.out HPf.out (HM.out.below hbx') HZM.out HNM.out).mono ?_;rintro en w9 ⟨u,rfl,hu,hb⟩;rw[HCC.out]at hu
      exact⟨u,rfl,hb,hu,Ae hbx' hb⟩
    case refine_14=>
     have k12:Al CC (sp 12) w':=(hdp 12 (mq (by kernel_rfl))).2
     (with_reducible refine Ai (w1:=w') (v:=sp 12) ?_ ?_ ?_)
     .simp[Region.wanted,yielded,Act.put,go_sem]
     .simp[execOp,Act.eval,Act.put,go_sem]
     .exact⟨Bb _ _,k12,hbx'⟩
    all_goals ((with_reducible refine Ad ?_ ?_);all_goals first|(simp only[Region.wanted];done)|simp[Region.wanted,yielded,execOp,Act.eval,Act.put,go_sem])
   .intro sp w4 hsp hb;obtain⟨qc,mc,dc,ec,hc⟩:Al CC (sp 13) w4:=hsp 13 rfl;have HC:=Ab (Al.of hc);have HBX:=Ab (HBX.out.below hb HBX.out.lt);clear hsp hc;replace HX:=Ab (HX.out.below hb);replace HV:=Ab (HV.out.below hb);replace HM:=Ab (HM.out.below hb);replace HQB:=Ab (HQB.out.below hb);replace HGB:=Ab (HGB.out.below hb);replace HB:=Ab (Ae HB.out hb);replace HK:=Ab (HK.out.below hb);clear hb;simp only[An,Nat.reduceAdd];rw[ec];clear ec;generalize sp 5=y5,sp 10=y10,sp 12=y12 at *
    go_simp
    go_wp2;refine Ah (by kernel_rfl) (by kernel_rfl)
     [some (.slice qk mk dk),some (.slice qc mc dc),some (.slice qx mx dx),some (.pointer (some ⟨b3,1,none⟩)),some (.slice p1 n1 c1),none,some (.pointer (some ⟨b3,1,none⟩)),some (.slice p1 n1 c1),none,none]
     [false,false,false,false,false,true,false,false,true,true] rfl
     (fun w1 w2=>Below w1.heap.size w1 w2)
     (fun _ w'=>Below w4.heap.size w4 w')
     (fun i v w'=>match i with
      | 5=>Al MM v w'
      | 8=>Al SS v w'
      | 9=>Al SS v w'
      | _=>True)
     ?_ (Bb _ _).drew ?_ ?_
    .intro i v w1 w2 hf hb;split at hf
     .exact hf.below hb
     .exact hf.below hb
     .exact hf.below hb
     .trivial
    .simp only[Ba,Nat.reduceAdd];refine⟨?_,?_,?_,?_,?_,?_,?_,?_,?_,?_,trivial⟩
     all_goals intro D sp w' hD hW hdp hbx'
     case refine_5|refine_8=>
      have hB4:=HBX.out.below hbx' HBX.out.lt;have g1:=hB4.cells.2.1
      with_reducible refine Ad ?_ ?_
      all_goals simp[Region.wanted,yielded,execOp,Act.eval,Act.put,go_sem,g1]
     case refine_6=>
      (with_reducible refine Ac (w1:=w') (f := 76) (args:=#[.slice qc mc dc,.slice qx mx dx,.slice p1 n1 c1]) ?_ ?_ ?_)
      .simp[Region.wanted,yielded,Act.put,go_sem]
      .simp[Act.eval,Act.put,go_sem]
      .refine(Kp (HC.out.below hbx') (HX.out.below hbx') (HQB.out.below hbx') HCb.out HXb.out HQl.out HQ0.out).mono ?_;rintro en w9 ⟨u,rfl,hu,hb⟩;rw[HMM.out]at hu
       exact⟨u,rfl,hb,hu,Ae hbx' hb⟩
     case refine_9=>
      have k5:Al MM (sp 5) w':=(hdp 5 (mq (by kernel_rfl))).2
      (with_reducible refine Ac (w1:=w') (f := 75) (args:=#[.slice qk mk dk,sp 5,.slice p1 n1 c1]) ?_ ?_ ?_)
      .simp[Region.wanted,yielded,Act.put,go_sem]
      .simp[Act.eval,Act.put,go_sem]
      .refine(aT (HK.out.below hbx') k5 (HQB.out.below hbx') HKl.out HMb.out HQl.out HQ0.out).mono ?_;rintro en w9 ⟨u,rfl,hu,hb⟩;rw[HSS.out]at hu
       exact⟨u,rfl,hb,hu,Ae hbx' hb⟩
     case refine_10=>
      have k8:Al SS (sp 8) w':=(hdp 8 (mq (by kernel_rfl))).2
      (with_reducible refine Ai (w1:=w') (v:=sp 8) ?_ ?_ ?_)
      .simp[Region.wanted,yielded,Act.put,go_sem]
      .simp[execOp,Act.eval,Act.put,go_sem]
      .exact⟨Bb _ _,k8,hbx'⟩
     all_goals ((with_reducible refine Ad ?_ ?_);all_goals first|(simp only[Region.wanted];done)|simp[Region.wanted,yielded,execOp,Act.eval,Act.put,go_sem])
    .intro sp w5 hsp hb;obtain⟨qs,ms,ds,es,hs⟩:Al SS (sp 9) w5:=hsp 9 rfl;have HS:=Ab (Al.of hs);have HBX:=Ab (HBX.out.below hb HBX.out.lt);clear hsp hs;replace HX:=Ab (HX.out.below hb);replace HV:=Ab (HV.out.below hb);replace HM:=Ab (HM.out.below hb);replace HQB:=Ab (HQB.out.below hb);replace HGB:=Ab (HGB.out.below hb);replace HB:=Ab (Ae HB.out hb);replace HC:=Ab (HC.out.below hb);clear hb;simp only[An,Nat.reduceAdd];rw[es];clear es;generalize sp 5=y5,sp 8=y8 at *
     go_simp
     go_wp2;refine Ah (by kernel_rfl) (by kernel_rfl)
      [some (.agg #[.slice p0 n0 c0,.slice p1 n1 c1,.slice p2 n2 c2,.slice p3 n3 c3]),some (.slice qc mc dc),none,some (.agg #[.slice p0 n0 c0,.slice p1 n1 c1,.slice p2 n2 c2,.slice p3 n3 c3]),some (.slice qs ms ds),none,none,none]
      [false,false,true,false,false,true,true,true] rfl
      (fun w1 w2=>Below w1.heap.size w1 w2)
      (fun _ w'=>Below w5.heap.size w5 w')
      (fun i v w'=>match i with
       | 2=>Gy (Ak Q) (Az CC (Ak Q)) v w'
       | 5=>Gy (Ak Q) (Az SS (Ak Q)) v w'
       | 6=>Bp 0 SB v w'
       | 7=>Bp 0 SB v w'
       | _=>True)
      ?_ (Bb _ _).drew ?_ ?_
     .intro i v w1 w2 hf hb;split at hf
      .exact hf.below hb
      .exact hf.below hb
      .exact hf.below hb
      .exact hf.below hb
      .trivial
     .simp only[Ba,Nat.reduceAdd];refine⟨?_,?_,?_,?_,?_,?_,?_,?_,trivial⟩
      all_goals intro D sp w' hD hW hdp hbx'
      case refine_1|refine_4=>
       have hB4:=HBX.out.below hbx' HBX.out.lt;have g0:=hB4.cells.1;have g1:=hB4.cells.2.1;have g2:=hB4.cells.2.2.1;have g3:=hB4.cells.2.2.2
       with_reducible refine Ad ?_ ?_
       all_goals simp[Region.wanted,yielded,execOp,Act.eval,Act.put,go_sem,g0,g1,g2,g3]
      case refine_3=>
       (with_reducible refine Ac (w1:=w') (f := 34) (args:=#[.agg #[.slice p0 n0 c0,.slice p1 n1 c1,.slice p2 n2 c2,.slice p3 n3 c3],.slice qc mc dc]) ?_ ?_ ?_)
       .simp[Region.wanted,yielded,Act.put,go_sem]
       .simp[Act.eval,Act.put,go_sem]
       .refine(Ep (HV.out.below hbx') (HC.out.below hbx') HQl.out HQf.out (HCl.out)).mono ?_;rintro en w9 ⟨g9,rfl,hu,_,hb⟩;exact⟨_,rfl,hb,⟨g9,rfl,hu⟩,Ae hbx' hb⟩
      case refine_6=>
       (with_reducible refine Ac (w1:=w') (f := 34) (args:=#[.agg #[.slice p0 n0 c0,.slice p1 n1 c1,.slice p2 n2 c2,.slice p3 n3 c3],.slice qs ms ds]) ?_ ?_ ?_)
       .simp[Region.wanted,yielded,Act.put,go_sem]
       .simp[Act.eval,Act.put,go_sem]
       .refine(Ep (HV.out.below hbx') (HS.out.below hbx') HQl.out HQf.out (HSl.out)).mono ?_;rintro en w9 ⟨g9,rfl,hu,_,hb⟩;exact⟨_,rfl,hb,⟨g9,rfl,hu⟩,Ae hbx' hb⟩
      case refine_7=>
       have hxa:∃g,sp 2=.slice (some ⟨g,0,none⟩) (Ak Q) (Ak Q)/\Bm w' g 5 .u8 (Az CC (Ak Q)):=(hdp 2 (mq (by kernel_rfl))).2
       (with_reducible refine Ay hxa fun ga ha1=>?_)
       have ea:=ha1.1;have hxb:∃g,sp 5=.slice (some ⟨g,0,none⟩) (Ak Q) (Ak Q)/\Bm w' g 5 .u8 (Az SS (Ak Q)):=(hdp 5 (mq (by kernel_rfl))).2
       (with_reducible refine Ay hxb fun gb hb1=>?_)
       have eb:=hb1.1
       (with_reducible refine Lb (n:=Ak Q) ha1.2 (Bq _ _).symm (Gw hb1.2 HQk.out).row HWp.out (show Ak Q+Ak Q<=140737488355328 by have:=HQf.out;omega) 23 (fun v' w5 hr ho hb=>?_))
       (with_reducible refine Ai (v:=v') (w1:=w5) ?_ ?_ ?_)
       .simp only[Region.wanted]
       .simp[execOp,resolve,invoke,builtin,Act.eval,Act.put,ea,eb,hr,Result.andThen]
       .have h9:=(Bp.mk ho).zero;rw[HSB.out]at h9
        exact⟨hb,h9,Ae hbx' hb⟩
      case refine_8=>
       have k6:Bp 0 SB (sp 6) w':=(hdp 6 (mq (by kernel_rfl))).2
       (with_reducible refine Ai (w1:=w') (v:=sp 6) ?_ ?_ ?_)
       .simp[Region.wanted,yielded,Act.put,go_sem]
       .simp[execOp,Act.eval,Act.put,go_sem]
       .exact⟨Bb _ _,k6,hbx'⟩
      all_goals ((with_reducible refine Ad ?_ ?_);all_goals first|(simp only[Region.wanted];done)|simp[Region.wanted,yielded,execOp,Act.eval,Act.put,go_sem])
     .intro sp w6 hsp hb;have HO:Aa (Bp 0 SB (sp 7) w6):=⟨hsp 7 rfl⟩
      have HBf:=Ab (Ae HB.out hb);clear hsp hb;simp only[An,Nat.reduceAdd];generalize sp 2=y2,sp 5=y5,sp 6=y6,sp 7=y7 at *
      go_simp
      go_wp2;go_ret;exact⟨_,rfl,HO.out,HBf.out⟩
end Go.Proofs.YtokhckjemidbpaaGreatDoor
