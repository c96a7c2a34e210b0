/- SignExact, walked: for a key x, any k and any c: an answer k + c x verifies just if c is the challenge with the base k times. -/
import Derived.Lib.SlBytesConst
import Derived.Test.YtokhckjemidbpaaGreatDoorSgG
import Derived.Test.YtokhckjemidbpaaGreatDoorSdA
set_option maxRecDepth 1000000
set_option maxHeartbeats 16000000
set_option linter.all false
namespace Go.Proofs.YtokhckjemidbpaaGreatDoor
open Go Go.RowKit
def four:List Nat:=[3,7,11,15]
def pp:Nat:=2^130-5
open Go Go.RowKit Go.Proofs.YtokhckjemidbpaaGreatDoor.Flow
theorem Lb {w:World}{g n:Nat}{xs:List Nat}(hx:Bm w g 5 .u8 xs)(hl:n=xs.length){p:Option Addr}{m c:Nat}{bs:List Nat}(hr:Bd w .u8 p m c bs)(hm:0<m)(hmax:n+m<=140737488355328)(ty:TypeId){C:Prop}(k:∀v' w',(Builtin.append_ #[23, 23] ty #[.slice (some ⟨g,0,none⟩) n n,.slice p m c]).run Tryz.prog w=.ok v' w'->Own w' w.heap.size v' (xs++bs)->Below w.heap.size w w'->C):C:=by
 obtain⟨i,hi,hz,hs,hb⟩:=info_parts Tryz.info_u8;have hbl:=hr.len;obtain⟨b,off,e,h2,h3⟩:=(hr.row hm).pos hm;subst e;obtain⟨v',w',h1,h4,h5⟩:=run_append_arg_grows (P:=Tryz.prog) w 23 ty 5 i (.int .u8 0) 1 1 Tryz.underlying23 hi hz hs hb rfl (by decide) ⟨g,0,none⟩ n n (xs.map fun(x:Nat)=>Value.int .u8 (x:Int)) (by simp[hl])
  (fun j u hu=>by
   rw[List.getElem?_map]at hu
   obtain⟨x,hx',rfl⟩:=Option.map_eq_some_iff.1 hu;rw[add_plain,Nat.zero_add];exact hx.cell hx')
  ⟨b,off,none⟩ m c (bs.map fun(x:Nat)=>Value.int .u8 (x:Int)) (by simp[hbl])
  (fun j u hu=>by
   rw[List.getElem?_map]at hu
   obtain⟨x,hx,rfl⟩:=Option.map_eq_some_iff.1 hu;rw[add_plain];exact h3 j x hx) (by omega) (by simp only[maxLen];omega) (by omega)
 refine k v' w' h1 ⟨?_⟩ ⟨h5.os,h5.tape,h5.output,h5.size,fun k hk=>h5.block k hk (by simp)⟩;rw[List.length_append,List.map_append,<-hl,<-hbl];exact h4
theorem nW (w:World)(hr:Tabs w)(A0:Int)(X:Nat)(hX:pB X)(K:Nat)(hK:pB K)(C:Nat)(hC:pB C)(pm:Option Addr)(nm cm:Nat)(msg:List Nat)(hm:Ax w ⟨pm,nm,cm,msg⟩)(hz:pm=none->cm=0) :
  Calls Tryz.prog 6 #[.int .i64 A0,.int .u64 (X:Nat),.int .u64 (K:Nat),.int .u64 (C:Nat),.slice pm nm cm] w fun e w'=>e=.returned (.bool true)/\Below w.heap.size w w':=by
 have HLI:=Ab Hr;have HT0:=Ab hr;have HM0:=Ab hm;have HZM:=Ab hz;have HXl:Aa (X<18446744073709551616):=⟨hX⟩
 have HKl:Aa (K<18446744073709551616):=⟨hK⟩
 have HCl:Aa (C<18446744073709551616):=⟨hC⟩
 have hcap:nm<=cm:=hm.row.cap;have hmax:cm<=9223372036854775807:=hm.row.max;obtain⟨i,hi⟩:∃i,((IntKind.u64.wrap A0)%3).toNat=i:=⟨_,rfl⟩
 have HI3:Aa (i<3):=⟨by rw[<-hi];exact Tv A0⟩
 have HI:=Ab hi;clear hr hX hK hC hi hm hz;go_enter Tryz.func6,Tryz.ntmps6
 go_wp2_with fail
 refine(HLI.out w HT0.out).mono ?_;rintro en w1 ⟨rfl,b1⟩;have B1:=Ab b1;clear b1
 by_cases hn3:300<nm
 .have hn3':(300:Int)<nm:=by omega
  go_wp2_with fail
  refine(HLI.out w1 (HT0.out.below B1.out HT0.out.size)).mono ?_;rintro en w2 ⟨rfl,b2⟩;have B2:=Ab (Ae B1.out b2);clear b2;go_wp2;go_ret;exact⟨rfl,B2.out⟩
 have hn3':¬(300:Int)<nm:=by omega
 have HNM:Aa (nm<=1000):=⟨by omega⟩
 go_wp2_with fail
 refine(Fw w1 A0 (HT0.out.below B1.out HT0.out.size)).mono ?_;rintro en w2 ⟨b,rfl,hg2,b2⟩;rw[HI.out]at hg2
 obtain⟨P,hP⟩:∃P,gP i=P:=⟨_,rfl⟩
 obtain⟨Q,hQ⟩:∃P,gQ i=P:=⟨_,rfl⟩
 obtain⟨G,hG⟩:∃P,gG i=P:=⟨_,rfl⟩
 obtain⟨H,hH⟩:∃P,gH i=P:=⟨_,rfl⟩
 have HP2:Aa (2<=P/\2<=Q/\G^Q%P=1):=⟨by rw[<-hP,<-hQ,<-hG];exact⟨dD i HI3.out,Ty i HI3.out,Nn i HI3.out⟩⟩
 have HPf:Aa (Ak P<=16):=⟨by rw[<-hP];exact Ol i HI3.out⟩
 have HQf:Aa (Ak Q<=16):=⟨by rw[<-hQ];exact Ql i HI3.out⟩
 have HPl:Aa (Ao P<=100000):=⟨Gl HPf.out⟩
 have HQl:Aa (Ao Q<=100000):=⟨Gl HQf.out⟩
 have HQ0:Aa (0<Q):=⟨by have:=HP2.out;omega⟩
 have HP0:Aa (0<P):=⟨by have:=HP2.out;omega⟩
 have HWp:Aa (0<Ak Q):=⟨Nat.pos_of_ne_zero fun h=>by
  have h3:=Dj Q;rw[h]at h3
  have h4:=HP2.out.2.1;have h5:Q<1:=h3;omega⟩
 rw[hP,hQ,hG,hH]at hg2
 have HG:=Ab hg2;have HB:=Ab (Ae B1.out b2);clear hg2 b2 hP hQ hG hH B1
 go_wp2_with fail
 refine(Ja HG.out).mono ?_;rintro en w3 ⟨r,rfl,hr3,hb⟩;replace HG:=Ab (HG.out.below hb);replace HB:=Ab (Ae HB.out hb);have HR:=Ab hr3;clear hr3 hb;obtain⟨KY,hKY⟩:∃A,X%Q=A:=⟨_,rfl⟩
 obtain⟨DR,hDR⟩:∃A,K%Q=A:=⟨_,rfl⟩
 obtain⟨AS,hAS⟩:∃A,C%Q=A:=⟨_,rfl⟩
 have HKY:=Ab hKY;have HDR:=Ab hDR;have HAS:=Ab hAS;have HASq:Aa (AS<Q):=⟨by rw[<-hAS];exact Nat.mod_lt _ HQ0.out⟩
 clear hKY hDR hAS
 go_wp2_with fail
 refine(Co (n:=X) _ HXl.out).mono ?_;rintro en wnA ⟨xA,rfl,h,hb⟩;have HN:=Ab h;clear h;replace HG:=Ab (HG.out.below hb);replace HR:=Ab (HR.out.below hb);replace HB:=Ab (Ae HB.out hb);clear hb
 go_wp2_with fail
 refine(Eb HR.out HN.out (by decide)).mono ?_;rintro en woA ⟨_,rfl,⟨pa,na,ca,rfl,h,l⟩,hb⟩;rw[HKY.out]at h l
 clear HN;replace HG:=Ab (HG.out.below hb);replace HR:=Ab (HR.out.below hb);replace HB:=Ab (Ae HB.out hb);have HFA:=Ab (Fit.of h l);clear h l hb
 go_wp2_with fail
 refine(Co (n:=K) _ HKl.out).mono ?_;rintro en wnD ⟨xD,rfl,h,hb⟩;have HN:=Ab h;clear h;replace HG:=Ab (HG.out.below hb);replace HR:=Ab (HR.out.below hb);replace HB:=Ab (Ae HB.out hb);replace HFA:=Ab (HFA.out.below hb);clear hb
 go_wp2_with fail
 refine(Eb HR.out HN.out (by decide)).mono ?_;rintro en woD ⟨_,rfl,⟨pd,nd,cd,rfl,h,l⟩,hb⟩;rw[HDR.out]at h l
 clear HN;replace HG:=Ab (HG.out.below hb);replace HR:=Ab (HR.out.below hb);replace HB:=Ab (Ae HB.out hb);replace HFA:=Ab (HFA.out.below hb);have HFD:=Ab (Fit.of h l);clear h l hb
 go_wp2_with fail
 refine(Co (n:=C) _ HCl.out).mono ?_;rintro en wnC ⟨xC,rfl,h,hb⟩;have HN:=Ab h;clear h;replace HG:=Ab (HG.out.below hb);replace HR:=Ab (HR.out.below hb);replace HB:=Ab (Ae HB.out hb);replace HFA:=Ab (HFA.out.below hb);replace HFD:=Ab (HFD.out.below hb);clear hb
 go_wp2_with fail
 refine(Eb HR.out HN.out (by decide)).mono ?_;rintro en woC ⟨_,rfl,⟨pc,nc,cc,rfl,h,l⟩,hb⟩;rw[HAS.out]at h l
 clear HN;replace HG:=Ab (HG.out.below hb);replace HR:=Ab (HR.out.below hb);replace HB:=Ab (Ae HB.out hb);replace HFA:=Ab (HFA.out.below hb);replace HFD:=Ab (HFD.out.below hb);have HFC:=Ab (Fit.of h l);clear h l hb;have hm:=Yn.mk3 woC (.slice pa na ca) (.slice pd nd cd) (.slice pc nc cc);obtain⟨b9,hb9⟩:∃b,woC.heap.size=b:=⟨_,rfl⟩
 have hz1:(woC.alloc (.cells #[.slice pa na ca] 37)).heap.size=b9+1:=by rw[<-hb9];simp
 have hz2:((woC.alloc (.cells #[.slice pa na ca] 37)).alloc (.cells #[.slice pd nd cd] 37)).heap.size=b9+1+1:=by rw[<-hb9];simp
 obtain⟨w8,hw8⟩:∃W,((woC.alloc (.cells #[.slice pa na ca] 37)).alloc (.cells #[.slice pd nd cd] 37)).alloc (.cells #[.slice pc nc cc] 37)=W:=⟨_,rfl⟩
 rw[hw8]at hm
 have hmA:=hm.b0;have hmD:=hm.b1;have hmC:=hm.b2;have hb:=hm.bel;rw[hb9]at hmA hmD hmC
 replace HG:=Ab (HG.out.below hb);replace HR:=Ab (HR.out.below hb);replace HB:=Ab (Ae HB.out hb);replace HFA:=Ab (HFA.out.below hb);replace HFD:=Ab (HFD.out.below hb);replace HFC:=Ab (HFC.out.below hb);have HXA:=Ab hmA;have HXD:=Ab hmD;have HXC:=Ab hmC;have HT:=Ab (HT0.out.below HB.out HT0.out.size);have HM:=Ab (HM0.out.below HB.out);have cA:=hmA.cell;clear hm hmA hmD hmC hb
 by_cases hz:KY=0
 .have HZ:Aa _:=⟨decide_eq_true hz⟩
  clear hz
  go_wp2_with fail
  clear hw8 hb9 hz1 hz2;refine(Dw HFA.out HZ.out).mono ?_;rintro en w9 ⟨_,rfl,rfl,hb⟩;have HBf:=Ab (Ae HB.out hb);clear hb cA;go_wp2;go_ret;exact⟨rfl,HBf.out⟩
 have HZ:=Ab (decide_eq_false hz);clear hz
 go_wp2_with fail
 clear hw8 hb9 hz1 hz2;refine(Dw HFA.out HZ.out).mono ?_;rintro en w9 ⟨_,rfl,rfl,hb⟩;clear cA;replace HXA:=Ab (HXA.out.below hb HXA.out.lt);replace HXD:=Ab (HXD.out.below hb HXD.out.lt);replace HXC:=Ab (HXC.out.below hb HXC.out.lt);replace HFA:=Ab (HFA.out.below hb);replace HFD:=Ab (HFD.out.below hb);replace HFC:=Ab (HFC.out.below hb);replace HG:=Ab (HG.out.below hb);replace HR:=Ab (HR.out.below hb);replace HT:=Ab (HT.out.below hb HT.out.size);replace HM:=Ab (HM.out.below hb);replace HB:=Ab (Ae HB.out hb);clear hb
 go_wp2_with fail
 refine(Jp HG.out).mono ?_;rintro en w10 ⟨_,rfl,hv,hb⟩;obtain⟨p0,n0,c0,p1,n1,c1,p2,n2,c2,p3,n3,c3,rfl,h0,h1,h2,h3⟩:=hv.ex;have hb2:Below w10.heap.size w10 (w10.alloc (.cells #[.slice p0 n0 c0,.slice p1 n1 c1,.slice p2 n2 c2,.slice p3 n3 c3] 30)):=Bx;have hx16:=Cu.made 30 w10 (.slice p0 n0 c0) (.slice p1 n1 c1) (.slice p2 n2 c2) (.slice p3 n3 c3);obtain⟨b16,hb16⟩:∃b,w10.heap.size=b:=⟨_,rfl⟩
 obtain⟨w11,hw11⟩:∃W,w10.alloc (.cells #[.slice p0 n0 c0,.slice p1 n1 c1,.slice p2 n2 c2,.slice p3 n3 c3] 30)=W:=⟨_,rfl⟩
 rw[hw11]at hb2 hx16
 rw[hb16]at hx16
 have HX16:=Ab hx16;have HV:Aa (Cb P Q G H (.agg #[.slice p0 n0 c0,.slice p1 n1 c1,.slice p2 n2 c2,.slice p3 n3 c3]) w11):=⟨⟨p0,n0,c0,p1,n1,c1,p2,n2,c2,p3,n3,c3,rfl,h0.below hb2,h1.below hb2,h2.below hb2,h3.below hb2⟩⟩
 have hbb:=Ae hb hb2;clear hv h0 h1 h2 h3 hb hb2 hx16;replace HXA:=Ab (HXA.out.below hbb HXA.out.lt);replace HXD:=Ab (HXD.out.below hbb HXD.out.lt);replace HXC:=Ab (HXC.out.below hbb HXC.out.lt);replace HFA:=Ab (HFA.out.below hbb);replace HFD:=Ab (HFD.out.below hbb);replace HFC:=Ab (HFC.out.below hbb);replace HG:=Ab (HG.out.below hbb);replace HR:=Ab (HR.out.below hbb);replace HT:=Ab (HT.out.below hbb HT.out.size);replace HM:=Ab (HM.out.below hbb);replace HB:=Ab (Ae HB.out hbb);clear hbb;obtain⟨Y,hYE⟩:∃Y,G^KY%P=Y:=⟨_,rfl⟩
 have HYE:=Ab hYE;have HYl:Aa (Y<P):=⟨by rw[<-hYE];exact Nat.mod_lt _ HP0.out⟩
 have HYb:Aa (Y<Ar 33):=⟨Nat.lt_trans HYl.out HG.out.lims.2.1⟩
 clear hYE;go_wp2;clear hw11 hb16;refine Am (by kernel_rfl) (by kernel_rfl)
  [some (.pointer (some ⟨b,0,none⟩)),some (.pointer (some ⟨b,0,none⟩)),none,some (.agg #[.slice pa na ca]),none,none,none]
  [false,false,true,false,true,true,true] rfl
  (fun wA wB=>KN (w11.heap.size) wA wB)
  (fun D sp w'=>RG (w11.heap.size) w11 [] w'/\Qt (D 5) (D 6) (sp 5) (w11.heap.size) (Y) w')
  (fun i v w'=>match i with
   | 2=>Fit 33 G v w'
   | 4=>Fit 33 (Y) v w'
   | _=>True)
  ?_ ⟨RG.start (As _) (fun x hx=>by cases hx),Qt.start (As _)⟩ ?_ ?_
 .intro i v wA wB hf hb;split at hf
  .exact hf.kn hb
  .exact hf.kn hb
  .trivial
 .simp only[Bf,Nat.reduceAdd];refine⟨?_,?_,?_,?_,?_,?_,?_,trivial⟩
  all_goals intro D sp w' hD hW hdp hg
  case refine_3=>
   (with_reducible refine Ac (w1:=w') (f := 26) (args:=#[.pointer (some ⟨b,0,none⟩)]) ?_ ?_ ?_)
   .simp[Region.wanted,yielded,Act.put,go_sem]
   .simp[Act.eval,Act.put,go_sem]
   .refine(Mm (HG.out.below hg.1.keep.bel)).mono ?_;rintro en w9 ⟨u,rfl,hu,hb⟩;exact⟨u,rfl,KN.of hb hg.1.base,hu,hg.1.later hb,by simpa [upd]using hg.2.later hb⟩
  case refine_4=>
   have c0:=(HXA.out.below hg.1.keep.bel HXA.out.lt).cell
   with_reducible refine Ad ?_ ?_
   all_goals simp[Region.wanted,yielded,execOp,Act.eval,Act.put,go_sem,c0]
  case refine_5=>
   have k2:Fit 33 G (sp 2) w':=(hdp 2 (mq (by kernel_rfl))).2
   (with_reducible refine Ac (w1:=w') (f := 25) (args:=#[.pointer (some ⟨b,0,none⟩),sp 2,.agg #[.slice pa na ca]]) ?_ ?_ ?_)
   .simp[Region.wanted,yielded,Act.put,go_sem]
   .simp[Act.eval,Act.put,go_sem]
   .refine(Jb (HG.out.below hg.1.keep.bel) k2 (HFA.out.below hg.1.keep.bel) (by decide) (by decide)).mono ?_;rintro en w9 ⟨u,rfl,hu,hb⟩;rw[HYE.out]at hu
    exact⟨u,rfl,KN.of hb hg.1.base,hu,hg.1.later hb,by simpa [upd]using hg.2.later hb⟩
  case refine_6=>
   have h9:D 6=false:=hW 6 (mq (by kernel_rfl));rw[hD,h9]at hg
   (with_reducible refine Ai (w1:=w'.alloc (.cells #[.slice none 0 0] 37)) (v:=.pointer (some ⟨w'.heap.size,0,none⟩)) ?_ ?_ ?_)
   .simp[Region.wanted,yielded,Act.put,go_sem]
   .simp[execOp,go_sem]
   .have hb:Below w'.heap.size w' (w'.alloc (.cells #[.slice none 0 0] 37)):=Bx;refine⟨KN.of hb hg.1.base,trivial,hg.1.later hb,?_⟩;have h8:=hg.2.made;simpa [upd,h9]using h8
  case refine_7=>
   have hx:∃p n c,sp 4=.agg #[.slice p n c]/\Aj w' p n c (Y)/\Y<Ar (33):=(hdp 4 (mq (by kernel_rfl))).2
   (with_reducible refine Ay hx fun p hx1=>Ay hx1 fun n hx2=>Ay hx2 fun c hx3=>?_)
   have h1:=hx3.1;have h9:D 5=true:=(hdp 5 (mq (by kernel_rfl))).1;rw[h9]at hg
   have hp:=hg.2.put (hx3.2.1)
   (with_reducible refine Ay hp fun b hy0=>Ay hy0 fun q hy1=>Ay hy1 fun m hy2=>Ay hy2 fun k hy3=>?_)
   have h3:=hy3.1;have h6:=hy3.2.2.1.cell;have h7:=hy3.2.2.1.free
   (with_reducible refine Aq (w1:=w'.setCell ⟨b,0,none⟩ (.slice p n c)) ?_ ?_ ?_)
   .simp[Region.wanted,yielded,Act.put,go_sem]
   .simp[execOp,Act.eval,Act.put,go_sem,h1,h3,h6,h7]
   .refine⟨KN.store hy3.2.2.1 (Dn (As _) hy3.2.1) _,trivial,hg.1.store_over hy3.2.2.1 (As _) hy3.2.1 (fun x hx=>by cases hx) _,?_⟩;have h8:=hy3.2.2.2;simpa [upd,h9]using h8
  all_goals ((with_reducible refine Ad ?_ ?_);all_goals first|(simp only[Region.wanted];done)|simp[Region.wanted,yielded,execOp,Act.eval,Act.put,go_sem])
 .intro sp w12 hsp hg;obtain⟨hg1,_,hmk⟩:=hg;obtain⟨b17,e17,_,py,ny,cy,hxy,hny⟩:=hmk rfl;replace hny:=hny rfl;have HXY:=Ab hxy;have HFY:=Ab (Fit.of hny HYb.out);have hbel:=hg1.keep.bel;clear hsp hg1 hmk hxy hny;replace HXA:=Ab (HXA.out.below hbel HXA.out.lt);replace HXD:=Ab (HXD.out.below hbel HXD.out.lt);replace HXC:=Ab (HXC.out.below hbel HXC.out.lt);replace HFA:=Ab (HFA.out.below hbel);replace HFD:=Ab (HFD.out.below hbel);replace HFC:=Ab (HFC.out.below hbel);replace HG:=Ab (HG.out.below hbel);replace HR:=Ab (HR.out.below hbel);replace HT:=Ab (HT.out.below hbel HT.out.size);replace HM:=Ab (HM.out.below hbel);replace HB:=Ab (Ae HB.out hbel);replace HX16:=Ab (HX16.out.below hbel HX16.out.lt);replace HV:=Ab (HV.out.below hbel);clear hbel;simp only[An,Nat.reduceAdd];rw[e17];clear e17;generalize sp 2=y2,sp 4=y4,sp 6=y6 at *
  go_simp
  obtain⟨M,hME⟩:∃Y,AS*KY%Q=Y:=⟨_,rfl⟩
  obtain⟨S,hSE⟩:∃Y,(DR+M)%Q=Y:=⟨_,rfl⟩
  have HME:=Ab hME;have HSE:=Ab hSE;have HSq:Aa (S<Q):=⟨by rw[<-hSE];exact Nat.mod_lt _ HQ0.out⟩
  have HSb:Aa (S<Ar 33):=⟨Nat.lt_trans HSq.out HG.out.lims.2.2.2⟩
  clear hME hSE;go_wp2;refine Am (by kernel_rfl) (by kernel_rfl)
   [some (.pointer (some ⟨r,0,none⟩)),some (.agg #[.slice pd nd cd]),some (.pointer (some ⟨r,0,none⟩)),some (.agg #[.slice pc nc cc]),some (.agg #[.slice pa na ca]),none,none,none,none]
   [false,false,false,false,false,true,true,true,true] rfl
   (fun wA wB=>KN (w12.heap.size) wA wB)
   (fun D sp w'=>RG (w12.heap.size) w12 [] w'/\Qt (D 7) (D 8) (sp 7) (w12.heap.size) (S) w')
   (fun i v w'=>match i with
    | 5=>Fit 33 (M) v w'
    | 6=>Fit 33 (S) v w'
    | _=>True)
   ?_ ⟨RG.start (As _) (fun x hx=>by cases hx),Qt.start (As _)⟩ ?_ ?_
  .intro i v wA wB hf hb;split at hf
   .exact hf.kn hb
   .exact hf.kn hb
   .trivial
  .simp only[Bf,Nat.reduceAdd];refine⟨?_,?_,?_,?_,?_,?_,?_,?_,?_,trivial⟩
   all_goals intro D sp w' hD hW hdp hg
   case refine_2=>
    have c0:=(HXD.out.below hg.1.keep.bel HXD.out.lt).cell
    with_reducible refine Ad ?_ ?_
    all_goals simp[Region.wanted,yielded,execOp,Act.eval,Act.put,go_sem,c0]
   case refine_4=>
    have c0:=(HXC.out.below hg.1.keep.bel HXC.out.lt).cell
    with_reducible refine Ad ?_ ?_
    all_goals simp[Region.wanted,yielded,execOp,Act.eval,Act.put,go_sem,c0]
   case refine_5=>
    have c0:=(HXA.out.below hg.1.keep.bel HXA.out.lt).cell
    with_reducible refine Ad ?_ ?_
    all_goals simp[Region.wanted,yielded,execOp,Act.eval,Act.put,go_sem,c0]
   case refine_6=>
    (with_reducible refine Ac (w1:=w') (f := 33) (args:=#[.pointer (some ⟨r,0,none⟩),.agg #[.slice pc nc cc],.agg #[.slice pa na ca]]) ?_ ?_ ?_)
    .simp[Region.wanted,yielded,Act.put,go_sem]
    .simp[Act.eval,Act.put,go_sem]
    .refine(Ge (HR.out.below hg.1.keep.bel) (HFC.out.below hg.1.keep.bel) (HFA.out.below hg.1.keep.bel) (by decide) (by decide)).mono ?_;rintro en w9 ⟨u,rfl,hu,hb⟩;rw[HME.out]at hu
     exact⟨u,rfl,KN.of hb hg.1.base,hu,hg.1.later hb,by simpa [upd]using hg.2.later hb⟩
   case refine_7=>
    have k5:Fit 33 (M) (sp 5) w':=(hdp 5 (mq (by kernel_rfl))).2
    (with_reducible refine Ac (w1:=w') (f := 32) (args:=#[.pointer (some ⟨r,0,none⟩),.agg #[.slice pd nd cd],sp 5]) ?_ ?_ ?_)
    .simp[Region.wanted,yielded,Act.put,go_sem]
    .simp[Act.eval,Act.put,go_sem]
    .refine(Oc (HR.out.below hg.1.keep.bel) (HFD.out.below hg.1.keep.bel) k5 (by decide) (by decide)).mono ?_;rintro en w9 ⟨u,rfl,hu,hb⟩;rw[HSE.out]at hu
     exact⟨u,rfl,KN.of hb hg.1.base,hu,hg.1.later hb,by simpa [upd]using hg.2.later hb⟩
   case refine_8=>
    have h9:D 8=false:=hW 8 (mq (by kernel_rfl));rw[hD,h9]at hg
    (with_reducible refine Ai (w1:=w'.alloc (.cells #[.slice none 0 0] 37)) (v:=.pointer (some ⟨w'.heap.size,0,none⟩)) ?_ ?_ ?_)
    .simp[Region.wanted,yielded,Act.put,go_sem]
    .simp[execOp,go_sem]
    .have hb:Below w'.heap.size w' (w'.alloc (.cells #[.slice none 0 0] 37)):=Bx;refine⟨KN.of hb hg.1.base,trivial,hg.1.later hb,?_⟩;have h8:=hg.2.made;simpa [upd,h9]using h8
   case refine_9=>
    have hx:∃p n c,sp 6=.agg #[.slice p n c]/\Aj w' p n c (S)/\S<Ar (33):=(hdp 6 (mq (by kernel_rfl))).2
    (with_reducible refine Ay hx fun p hx1=>Ay hx1 fun n hx2=>Ay hx2 fun c hx3=>?_)
    have h1:=hx3.1;have h9:D 7=true:=(hdp 7 (mq (by kernel_rfl))).1;rw[h9]at hg
    have hp:=hg.2.put (hx3.2.1)
    (with_reducible refine Ay hp fun b hy0=>Ay hy0 fun q hy1=>Ay hy1 fun m hy2=>Ay hy2 fun k hy3=>?_)
    have h3:=hy3.1;have h6:=hy3.2.2.1.cell;have h7:=hy3.2.2.1.free
    (with_reducible refine Aq (w1:=w'.setCell ⟨b,0,none⟩ (.slice p n c)) ?_ ?_ ?_)
    .simp[Region.wanted,yielded,Act.put,go_sem]
    .simp[execOp,Act.eval,Act.put,go_sem,h1,h3,h6,h7]
    .refine⟨KN.store hy3.2.2.1 (Dn (As _) hy3.2.1) _,trivial,hg.1.store_over hy3.2.2.1 (As _) hy3.2.1 (fun x hx=>by cases hx) _,?_⟩;have h8:=hy3.2.2.2;simpa [upd,h9]using h8
   all_goals ((with_reducible refine Ad ?_ ?_);all_goals first|(simp only[Region.wanted];done)|simp[Region.wanted,yielded,execOp,Act.eval,Act.put,go_sem])
  .intro sp w13 hsp hg;obtain⟨hg1,_,hmk⟩:=hg;obtain⟨b18,e18,_,ps,ns,cs,hxs,hns⟩:=hmk rfl;replace hns:=hns rfl;have HXS:=Ab hxs;have HFS:=Ab (Fit.of hns HSb.out);have hbel:=hg1.keep.bel;clear hsp hg1 hmk hxs hns;replace HXA:=Ab (HXA.out.below hbel HXA.out.lt);replace HXD:=Ab (HXD.out.below hbel HXD.out.lt);replace HXC:=Ab (HXC.out.below hbel HXC.out.lt);replace HFA:=Ab (HFA.out.below hbel);replace HFD:=Ab (HFD.out.below hbel);replace HFC:=Ab (HFC.out.below hbel);replace HG:=Ab (HG.out.below hbel);replace HR:=Ab (HR.out.below hbel);replace HT:=Ab (HT.out.below hbel HT.out.size);replace HM:=Ab (HM.out.below hbel);replace HB:=Ab (Ae HB.out hbel);replace HX16:=Ab (HX16.out.below hbel HX16.out.lt);replace HV:=Ab (HV.out.below hbel);replace HXY:=Ab (HXY.out.below hbel HXY.out.lt);replace HFY:=Ab (HFY.out.below hbel);clear hbel;simp only[An,Nat.reduceAdd];rw[e18];clear e18;generalize sp 5=y5,sp 6=y6,sp 8=y8 at *
   go_simp
   obtain⟨SIG,hSIG⟩:∃Y,Az AS (Ak Q)++Az S (Ak Q)=Y:=⟨_,rfl⟩
   have HSIG:=Ab hSIG;have hlq:=Dj Q;have HASl:Aa (AS<B8 (Ak Q)):=⟨Nat.lt_trans HASq.out hlq⟩
   have HSl:Aa (S<B8 (Ak Q)):=⟨Nat.lt_trans HSq.out hlq⟩
   have HSI8:Aa (Au SIG):=⟨fun z hz=>by
    rw[<-hSIG]at hz
    rcases List.mem_append.1 hz with h|h
    .exact(Gf _ _).reverse z h
    .exact(Gf _ _).reverse z h⟩
   clear hSIG hlq;go_wp2;refine Ah (by kernel_rfl) (by kernel_rfl)
    [some (.agg #[.slice p0 n0 c0,.slice p1 n1 c1,.slice p2 n2 c2,.slice p3 n3 c3]),some (.agg #[.slice pc nc cc]),none,none,some (.agg #[.slice p0 n0 c0,.slice p1 n1 c1,.slice p2 n2 c2,.slice p3 n3 c3]),some (.agg #[.slice ps ns cs]),none,none,none,none]
    [false,false,true,true,false,false,true,true,true,true] rfl
    (fun w1 w2=>Below w1.heap.size w1 w2)
    (fun _ w'=>Below w13.heap.size w13 w')
    (fun i v w'=>match i with
     | 2=>Al AS v w'
     | 3=>Gy (Ak Q) (Az AS (Ak Q)) v w'
     | 6=>Al S v w'
     | 7=>Gy (Ak Q) (Az S (Ak Q)) v w'
     | 8=>Bp 0 SIG v w'
     | 9=>Bp 0 SIG v w'
     | _=>True)
    ?_ (Bb _ _).drew ?_ ?_
   .intro i v w1 w2 hf hb;split at hf
    .exact hf.below hb
    .exact hf.below hb
    .exact hf.below hb
    .exact hf.below hb
    .exact hf.below hb
    .exact hf.below hb
    .trivial
   .simp only[Ba,Nat.reduceAdd];refine⟨?_,?_,?_,?_,?_,?_,?_,?_,?_,?_,trivial⟩
    all_goals intro D sp w' hD hW hdp hbx'
    case refine_1|refine_5=>
     have hB4:=HX16.out.below hbx' HX16.out.lt;have g0:=hB4.cells.1;have g1:=hB4.cells.2.1;have g2:=hB4.cells.2.2.1;have g3:=hB4.cells.2.2.2
     with_reducible refine Ad ?_ ?_
     all_goals simp[Region.wanted,yielded,execOp,Act.eval,Act.put,go_sem,g0,g1,g2,g3]
    case refine_2=>
     have c0:=(HXC.out.below hbx' HXC.out.lt).cell
     with_reducible refine Ad ?_ ?_
     all_goals simp[Region.wanted,yielded,execOp,Act.eval,Act.put,go_sem,c0]
    case refine_3=>
     (with_reducible refine Ac (w1:=w') (f := 29) (args:=#[.agg #[.slice pc nc cc]]) ?_ ?_ ?_)
     .simp[Region.wanted,yielded,Act.put,go_sem]
     .simp[Act.eval,Act.put,go_sem]
     .refine(Dp (HFC.out.below hbx') (by decide)).mono ?_;rintro en w9 ⟨u,rfl,hu,hb⟩;exact⟨u,rfl,hb,hu,Ae hbx' hb⟩
    case refine_4=>
     have k2:Al AS (sp 2) w':=(hdp 2 (mq (by kernel_rfl))).2
     (with_reducible refine Ac (w1:=w') (f := 34) (args:=#[.agg #[.slice p0 n0 c0,.slice p1 n1 c1,.slice p2 n2 c2,.slice p3 n3 c3],sp 2]) ?_ ?_ ?_)
     .simp[Region.wanted,yielded,Act.put,go_sem]
     .simp[Act.eval,Act.put,go_sem]
     .refine(Ep (HV.out.below hbx') k2 HQl.out HQf.out (HASl.out)).mono ?_;rintro en w9 ⟨g9,rfl,hu,_,hb⟩;exact⟨_,rfl,hb,⟨g9,rfl,hu⟩,Ae hbx' hb⟩
    case refine_6=>
     have c0:=(HXS.out.below hbx' HXS.out.lt).cell
     with_reducible refine Ad ?_ ?_
     all_goals simp[Region.wanted,yielded,execOp,Act.eval,Act.put,go_sem,c0]
    case refine_7=>
     (with_reducible refine Ac (w1:=w') (f := 29) (args:=#[.agg #[.slice ps ns cs]]) ?_ ?_ ?_)
     .simp[Region.wanted,yielded,Act.put,go_sem]
     .simp[Act.eval,Act.put,go_sem]
     .refine(Dp (HFS.out.below hbx') (by decide)).mono ?_;rintro en w9 ⟨u,rfl,hu,hb⟩;exact⟨u,rfl,hb,hu,Ae hbx' hb⟩
    case refine_8=>
     have k6:Al S (sp 6) w':=(hdp 6 (mq (by kernel_rfl))).2
     (with_reducible refine Ac (w1:=w') (f := 34) (args:=#[.agg #[.slice p0 n0 c0,.slice p1 n1 c1,.slice p2 n2 c2,.slice p3 n3 c3],sp 6]) ?_ ?_ ?_)
     .simp[Region.wanted,yielded,Act.put,go_sem]
     .simp[Act.eval,Act.put,go_sem]
     .refine(Ep (HV.out.below hbx') k6 HQl.out HQf.out (HSl.out)).mono ?_;rintro en w9 ⟨g9,rfl,hu,_,hb⟩;exact⟨_,rfl,hb,⟨g9,rfl,hu⟩,Ae hbx' hb⟩
    case refine_9=>
     have hxa:∃g,sp 3=.slice (some ⟨g,0,none⟩) (Ak Q) (Ak Q)/\Bm w' g 5 .u8 (Az AS (Ak Q)):=(hdp 3 (mq (by kernel_rfl))).2
     (with_reducible refine Ay hxa fun ga ha1=>?_)
     have ea:=ha1.1;have hxb:∃g,sp 7=.slice (some ⟨g,0,none⟩) (Ak Q) (Ak Q)/\Bm w' g 5 .u8 (Az S (Ak Q)):=(hdp 7 (mq (by kernel_rfl))).2
     (with_reducible refine Ay hxb fun gb hb1=>?_)
     have eb:=hb1.1
     (with_reducible refine Lb (n:=Ak Q) ha1.2 (Bq _ _).symm (Gw hb1.2 (by have:=HQf.out;omega)).row HWp.out (show Ak Q+Ak Q<=140737488355328 by have:=HQf.out;omega) 23 (fun v' w5 hr ho hb=>?_))
     (with_reducible refine Ai (v:=v') (w1:=w5) ?_ ?_ ?_)
     .simp only[Region.wanted]
     .simp[execOp,resolve,invoke,builtin,Act.eval,Act.put,ea,eb,hr,Result.andThen]
     .have h9:=(Bp.mk ho).zero;rw[HSIG.out]at h9
      exact⟨hb,h9,Ae hbx' hb⟩
    case refine_10=>
     have k8:Bp 0 SIG (sp 8) w':=(hdp 8 (mq (by kernel_rfl))).2
     (with_reducible refine Ai (w1:=w') (v:=sp 8) ?_ ?_ ?_)
     .simp[Region.wanted,yielded,Act.put,go_sem]
     .simp[execOp,Act.eval,Act.put,go_sem]
     .exact⟨Bb _ _,k8,hbx'⟩
   .intro sp w14 hsp hb;obtain⟨pz,cz,ez,hsg,_⟩:=(show Bp 0 SIG (sp 9) w14 from hsp 9 rfl).part HSI8.out;obtain⟨nz,hnz⟩:∃n,SIG.length=n:=⟨_,rfl⟩
    rw[hnz]at ez hsg
    have HSG:=Ab hsg;clear hsp hsg hnz;replace HXA:=Ab (HXA.out.below hb HXA.out.lt);replace HXD:=Ab (HXD.out.below hb HXD.out.lt);replace HXC:=Ab (HXC.out.below hb HXC.out.lt);replace HFA:=Ab (HFA.out.below hb);replace HFD:=Ab (HFD.out.below hb);replace HFC:=Ab (HFC.out.below hb);replace HG:=Ab (HG.out.below hb);replace HR:=Ab (HR.out.below hb);replace HT:=Ab (HT.out.below hb HT.out.size);replace HM:=Ab (HM.out.below hb);replace HB:=Ab (Ae HB.out hb);replace HX16:=Ab (HX16.out.below hb HX16.out.lt);replace HV:=Ab (HV.out.below hb);replace HXY:=Ab (HXY.out.below hb HXY.out.lt);replace HFY:=Ab (HFY.out.below hb);clear hb HXS HFS;simp only[An,Nat.reduceAdd];rw[ez];clear ez;generalize sp 2=y2,sp 3=y3,sp 6=y6,sp 7=y7,sp 8=y8 at *
    go_simp
    obtain⟨AA,hAE⟩:∃Y,G^DR%P=Y:=⟨_,rfl⟩
    obtain⟨WN,hWN⟩:∃Z,Hd P Q AA Y msg=Z:=⟨_,rfl⟩
    have HAE:=Ab hAE;have HWN:=Ab hWN;have HAl:Aa (AA<P):=⟨by rw[<-hAE];exact Nat.mod_lt _ HP0.out⟩
    have HWq:Aa (WN<Q):=⟨by rw[<-hWN];exact Iw HQ0.out⟩
    clear hAE hWN;go_wp2;refine Ah (by kernel_rfl) (by kernel_rfl)
     [some (.agg #[.slice p0 n0 c0,.slice p1 n1 c1,.slice p2 n2 c2,.slice p3 n3 c3]),some (.pointer (some ⟨b,0,none⟩)),some (.pointer (some ⟨b,0,none⟩)),none,some (.agg #[.slice pd nd cd]),none,none,some (.agg #[.slice py ny cy]),none,some (.slice pm nm cm),none,none]
     [false,false,false,true,false,true,true,false,true,false,true,true] rfl
     (fun w1 w2=>Below w1.heap.size w1 w2)
     (fun _ w'=>Below w14.heap.size w14 w')
     (fun i v w'=>match i with
      | 3=>Fit 33 G v w'
      | 5=>Fit 33 (AA) v w'
      | 6=>Al AA v w'
      | 8=>Al Y v w'
      | 10=>Al WN v w'
      | 11=>Al WN v w'
      | _=>True)
     ?_ (Bb _ _).drew ?_ ?_
    .intro i v w1 w2 hf hb;split at hf
     .exact hf.below hb
     .exact hf.below hb
     .exact hf.below hb
     .exact hf.below hb
     .exact hf.below hb
     .exact hf.below hb
     .trivial
    .simp only[Ba,Nat.reduceAdd];refine⟨?_,?_,?_,?_,?_,?_,?_,?_,?_,?_,?_,?_,trivial⟩
     all_goals intro D sp w' hD hW hdp hbx'
     case refine_1=>
      have hB4:=HX16.out.below hbx' HX16.out.lt;have g0:=hB4.cells.1;have g1:=hB4.cells.2.1;have g2:=hB4.cells.2.2.1;have g3:=hB4.cells.2.2.2
      with_reducible refine Ad ?_ ?_
      all_goals simp[Region.wanted,yielded,execOp,Act.eval,Act.put,go_sem,g0,g1,g2,g3]
     case refine_4=>
      (with_reducible refine Ac (w1:=w') (f := 26) (args:=#[.pointer (some ⟨b,0,none⟩)]) ?_ ?_ ?_)
      .simp[Region.wanted,yielded,Act.put,go_sem]
      .simp[Act.eval,Act.put,go_sem]
      .refine(Mm (HG.out.below hbx')).mono ?_;rintro en w9 ⟨u,rfl,hu,hb⟩;exact⟨u,rfl,hb,hu,Ae hbx' hb⟩
     case refine_5=>
      have c0:=(HXD.out.below hbx' HXD.out.lt).cell
      with_reducible refine Ad ?_ ?_
      all_goals simp[Region.wanted,yielded,execOp,Act.eval,Act.put,go_sem,c0]
     case refine_6=>
      have k3:Fit 33 G (sp 3) w':=(hdp 3 (mq (by kernel_rfl))).2
      (with_reducible refine Ac (w1:=w') (f := 25) (args:=#[.pointer (some ⟨b,0,none⟩),sp 3,.agg #[.slice pd nd cd]]) ?_ ?_ ?_)
      .simp[Region.wanted,yielded,Act.put,go_sem]
      .simp[Act.eval,Act.put,go_sem]
      .refine(Jb (HG.out.below hbx') k3 (HFD.out.below hbx') (by decide) (by decide)).mono ?_;rintro en w9 ⟨u,rfl,hu,hb⟩;rw[HAE.out]at hu
       exact⟨u,rfl,hb,hu,Ae hbx' hb⟩
     case refine_7=>
      have k5:Fit 33 (AA) (sp 5) w':=(hdp 5 (mq (by kernel_rfl))).2
      (with_reducible refine Ac (w1:=w') (f := 29) (args:=#[sp 5]) ?_ ?_ ?_)
      .simp[Region.wanted,yielded,Act.put,go_sem]
      .simp[Act.eval,Act.put,go_sem]
      .refine(Dp (k5) (by decide)).mono ?_;rintro en w9 ⟨u,rfl,hu,hb⟩;exact⟨u,rfl,hb,hu,Ae hbx' hb⟩
     case refine_8=>
      have c0:=(HXY.out.below hbx' HXY.out.lt).cell
      with_reducible refine Ad ?_ ?_
      all_goals simp[Region.wanted,yielded,execOp,Act.eval,Act.put,go_sem,c0]
     case refine_9=>
      (with_reducible refine Ac (w1:=w') (f := 29) (args:=#[.agg #[.slice py ny cy]]) ?_ ?_ ?_)
      .simp[Region.wanted,yielded,Act.put,go_sem]
      .simp[Act.eval,Act.put,go_sem]
      .refine(Dp (HFY.out.below hbx') (by decide)).mono ?_;rintro en w9 ⟨u,rfl,hu,hb⟩;exact⟨u,rfl,hb,hu,Ae hbx' hb⟩
     case refine_11=>
      have k6:Al AA (sp 6) w':=(hdp 6 (mq (by kernel_rfl))).2;have k8:Al Y (sp 8) w':=(hdp 8 (mq (by kernel_rfl))).2
      (with_reducible refine Ac (w1:=w') (f := 35) (args:=#[.agg #[.slice p0 n0 c0,.slice p1 n1 c1,.slice p2 n2 c2,.slice p3 n3 c3],sp 6,sp 8,.slice pm nm cm]) ?_ ?_ ?_)
      .simp[Region.wanted,yielded,Act.put,go_sem]
      .simp[Act.eval,Act.put,go_sem]
      .refine(Ll (HV.out.below hbx') k6 k8 HAl.out HYl.out HPl.out HQl.out HQ0.out HPf.out (HM.out.below hbx') HZM.out HNM.out).mono ?_;rintro en w9 ⟨u,rfl,hu,hb⟩;rw[HWN.out]at hu
       exact⟨u,rfl,hb,hu,Ae hbx' hb⟩
     case refine_12=>
      have k10:Al WN (sp 10) w':=(hdp 10 (mq (by kernel_rfl))).2
      (with_reducible refine Ai (w1:=w') (v:=sp 10) ?_ ?_ ?_)
      .simp[Region.wanted,yielded,Act.put,go_sem]
      .simp[execOp,Act.eval,Act.put,go_sem]
      .exact⟨Bb _ _,k10,hbx'⟩
     all_goals ((with_reducible refine Ad ?_ ?_);all_goals first|(simp only[Region.wanted];done)|simp[Region.wanted,yielded,execOp,Act.eval,Act.put,go_sem])
    .intro sp w15 hsp hb;obtain⟨qw,mw,dw,ew,hw⟩:Al WN (sp 11) w15:=hsp 11 rfl;have HW:=Ab (Al.of hw);clear hsp hw;replace HXA:=Ab (HXA.out.below hb HXA.out.lt);replace HXD:=Ab (HXD.out.below hb HXD.out.lt);replace HXC:=Ab (HXC.out.below hb HXC.out.lt);replace HFA:=Ab (HFA.out.below hb);replace HFD:=Ab (HFD.out.below hb);replace HFC:=Ab (HFC.out.below hb);replace HG:=Ab (HG.out.below hb);replace HR:=Ab (HR.out.below hb);replace HT:=Ab (HT.out.below hb HT.out.size);replace HM:=Ab (HM.out.below hb);replace HB:=Ab (Ae HB.out hb);replace HXY:=Ab (HXY.out.below hb HXY.out.lt);replace HFY:=Ab (HFY.out.below hb);replace HSG:=Ab (HSG.out.below hb);clear hb HX16 HV;simp only[An,Nat.reduceAdd];rw[ew];clear ew;generalize sp 3=y3,sp 5=y5,sp 6=y6,sp 8=y8,sp 10=y10 at *
     go_simp
     obtain⟨KC,hKC⟩:∃K,Bo WN AS=K:=⟨_,rfl⟩
     obtain⟨ANS,hE⟩:∃A,((KC:Int)==0)=A:=⟨_,rfl⟩
     have HKC:=Ab hKC;have HVX:Aa (∀X9:Bool,(X9=true ↔ Cv P Q G Y msg SIG)->X9=ANS):=⟨fun X9 h9=>by
      have h1:Cv P Q G Y msg SIG ↔ WN=AS:=by
       rw[<-HSIG.out,<-HYE.out,<-HSE.out,<-HME.out,Vq HP2.out.1 HP2.out.2.2 HASq.out,HAE.out,HYE.out,HWN.out]
      have h2:ANS=true ↔ WN=AS:=by rw[<-hE,<-hKC,beq_iff_eq,Ce]
      rw[h1]at h9
      rw[Bool.eq_iff_iff,h9,h2]⟩
     have HWb:Aa (Ao WN<=1000000):=⟨Dn (By HWq.out HQf.out) (by decide)⟩
     have HASb:Aa (Ao AS<=1000000):=⟨Dn (By HASq.out HQf.out) (by decide)⟩
     clear hKC;go_wp2;refine Ah (by kernel_rfl) (by kernel_rfl)
      [some (.pointer (some ⟨b,0,none⟩)),some (.agg #[.slice py ny cy]),some (.slice pm nm cm),some (.slice pz nz cz),none,some (.slice qw mw dw),some (.agg #[.slice pc nc cc]),none,none,some (.bool ANS),some (.bool true),some (.bool true)]
      [false,false,false,false,true,false,false,true,true,false,false,false] rfl
      (fun w1 w2=>Below w1.heap.size w1 w2)
      (fun _ w'=>Below w15.heap.size w15 w')
      (fun i v w'=>match i with
       | 4=>v=.bool ANS
       | 7=>Al AS v w'
       | 8=>v=.int .i64 KC
       | _=>True)
      ?_ (Bb _ _).drew ?_ ?_
     .intro i v w1 w2 hf hb;split at hf
      .exact hf
      .exact hf.below hb
      .exact hf
      .trivial
     .simp only[Ba,Nat.reduceAdd];refine⟨?_,?_,?_,?_,?_,?_,?_,?_,?_,?_,?_,?_,trivial⟩
      all_goals intro D sp w' hD hW hdp hbx'
      case refine_2=>
       have c0:=(HXY.out.below hbx' HXY.out.lt).cell
       with_reducible refine Ad ?_ ?_
       all_goals simp[Region.wanted,yielded,execOp,Act.eval,Act.put,go_sem,c0]
      case refine_5=>
       (with_reducible refine Ac (w1:=w') (f := 27) (args:=#[.pointer (some ⟨b,0,none⟩),.agg #[.slice py ny cy],.slice pm nm cm,.slice pz nz cz]) ?_ ?_ ?_)
       .simp[Region.wanted,yielded,Act.put,go_sem]
       .simp[Act.eval,Act.put,go_sem]
       .refine(Dh (HG.out.below hbx') (HT.out.below hbx' HT.out.size) (HFY.out.below hbx') (by decide) HPf.out HQf.out (HM.out.below hbx') (HSG.out.below hbx')).mono ?_;rintro en w9 ⟨X9,rfl,hX9,hb⟩;have hf9:=HVX.out X9 hX9;rw[hf9];exact⟨_,rfl,hb,rfl,Ae hbx' hb⟩
      case refine_7=>
       have c0:=(HXC.out.below hbx' HXC.out.lt).cell
       with_reducible refine Ad ?_ ?_
       all_goals simp[Region.wanted,yielded,execOp,Act.eval,Act.put,go_sem,c0]
      case refine_8=>
       (with_reducible refine Ac (w1:=w') (f := 29) (args:=#[.agg #[.slice pc nc cc]]) ?_ ?_ ?_)
       .simp[Region.wanted,yielded,Act.put,go_sem]
       .simp[Act.eval,Act.put,go_sem]
       .refine(Dp (HFC.out.below hbx') (by decide)).mono ?_;rintro en w9 ⟨u,rfl,hu,hb⟩;exact⟨u,rfl,hb,hu,Ae hbx' hb⟩
      case refine_9=>
       have k7:Al AS (sp 7) w':=(hdp 7 (mq (by kernel_rfl))).2
       (with_reducible refine Ac (w1:=w') (f := 36) (args:=#[.slice qw mw dw,sp 7]) ?_ ?_ ?_)
       .simp[Region.wanted,yielded,Act.put,go_sem]
       .simp[Act.eval,Act.put,go_sem]
       .refine(Gs (HW.out.below hbx') k7 HWb.out HASb.out).mono ?_;rintro en w9 ⟨_,rfl,rfl,hb⟩;rw[HKC.out];exact⟨_,rfl,hb,rfl,Ae hbx' hb⟩
      case refine_10=>
       have k8:(sp 8)=.int .i64 KC:=(hdp 8 (mq (by kernel_rfl))).2
       with_reducible refine Ad ?_ ?_
       all_goals simp[Region.wanted,yielded,execOp,Act.eval,Act.put,go_sem,k8,hE]
      case refine_11=>
       have k4:(sp 4)=.bool ANS:=(hdp 4 (mq (by kernel_rfl))).2
       with_reducible refine Ad ?_ ?_
       all_goals simp[Region.wanted,yielded,execOp,Act.eval,Act.put,go_sem,k4]
      all_goals ((with_reducible refine Ad ?_ ?_);all_goals first|(simp only[Region.wanted];done)|simp[Region.wanted,yielded,execOp,Act.eval,Act.put,go_sem])
     .intro sp w16 hsp hb;have HBf:=Ab (Ae HB.out hb);clear hsp hb hE;simp only[An,Nat.reduceAdd];generalize sp 4=y4,sp 7=y7,sp 8=y8 at *
      go_simp
      go_wp2;go_ret;exact⟨rfl,HBf.out⟩
end Go.Proofs.YtokhckjemidbpaaGreatDoor
