/- SignBack, walked: what a key has signed verifies, and is the same each time; with a byte more or fewer, or for what is no member, it doesn't verify. -/
import Derived.Test.YtokhckjemidbpaaGreatDoorSgG
import Derived.IntWalk
set_option maxRecDepth 1000000
set_option maxHeartbeats 16000000
set_option linter.all false
namespace Go.Proofs.YtokhckjemidbpaaGreatDoor
open Go Go.RowKit Go.Proofs.YtokhckjemidbpaaGreatDoor.Flow
theorem Vn {p:Option Addr}{n c W:Nat}(hW:W<=n)(hc:n<=c)(w:World) :
  (Instr.sliceAt 23 (.slice p n c) none (some (.int .i64 (W:Int))) none).run Tryz.prog w=.ok (.slice p W c) w:=by
 have hel:Tryz.prog.elem 23 = 5 := by kernel_rfl
 have hu:Tryz.prog.underlying 23 = some (.slice (Tryz.prog.elem 23)):=by rw[hel];exact Tryz.underlying23
 rw[run_sliceAt_slice w 23 _ _ _ _ hu,run_slice_h w 23 _ _ _ hu .i64 _ (by omega) (by omega)];have hs:(sizeOf (Tryz.prog.elem 23)).run Tryz.prog w=.ok 1 w:=by rw[hel];simp[go_sem]
 rw[hs];simp only[Result.andThen_ok,sliced];have e:p.map (·.add (0*1))=p:=by
  cases p with
  | none=>rfl
  | some a=>obtain⟨b,off,sp⟩:=a;simp[Addr.add]
 rw[e];simp
theorem Qg {Q P G Y:Nat}{msg sig:List Nat}{X:Bool}(h:X=true ↔ Cv P Q G Y msg sig)(hn:¬Cv P Q G Y msg sig):X=false:=by
 cases X with
 | false=>rfl
 | true=>exact absurd (h.1 rfl) hn
theorem pI (w:World)(hr:Tabs w)(A0:Int)(X:Nat)(hX:pB X)(pm:Option Addr)(nm cm:Nat)(msg:List Nat)(hm:Ax w ⟨pm,nm,cm,msg⟩)(y:Nat)(hy8:y<256) :
  Calls Tryz.prog 5 #[.int .i64 A0,.int .u64 (X:Nat),.slice pm nm cm,.int .u8 (y:Nat)] w fun e w'=>e=.returned (.bool true)/\Below w.heap.size w w':=by
 have HLI:=Ab Hr;have HT0:=Ab hr;have HM0:=Ab hm;have HXl:Aa (X<18446744073709551616):=⟨hX⟩
 have HYb:=Ab hy8;have hcap:nm<=cm:=hm.row.cap;have hmax:cm<=9223372036854775807:=hm.row.max;obtain⟨i,hi⟩:∃i,((IntKind.u64.wrap A0)%3).toNat=i:=⟨_,rfl⟩
 have HI3:Aa (i<3):=⟨by rw[<-hi];exact Tv A0⟩
 have HI:=Ab hi;clear hr hX hi hm;go_enter Tryz.func5,Tryz.ntmps5
 go_wp2_with fail
 refine(HLI.out w HT0.out).mono ?_;rintro en w1 ⟨rfl,b1⟩;have B1:=Ab b1;clear b1
 by_cases hn3:300<nm
 .have hn3':(300:Int)<nm:=by omega
  go_wp2_with fail
  refine(HLI.out w1 (HT0.out.below B1.out HT0.out.size)).mono ?_;rintro en w2 ⟨rfl,b2⟩;have B2:=Ab (Ae B1.out b2);clear b2;go_wp2;go_ret;exact⟨rfl,B2.out⟩
 have hn3':¬(300:Int)<nm:=by omega
 go_wp2_with fail
 refine(Fw w1 A0 (HT0.out.below B1.out HT0.out.size)).mono ?_;rintro en w2 ⟨b,rfl,hg2,b2⟩;rw[HI.out]at hg2
 obtain⟨P,hP⟩:∃P,gP i=P:=⟨_,rfl⟩
 obtain⟨Q,hQ⟩:∃P,gQ i=P:=⟨_,rfl⟩
 obtain⟨G,hG⟩:∃P,gG i=P:=⟨_,rfl⟩
 obtain⟨H,hH⟩:∃P,gH i=P:=⟨_,rfl⟩
 have HP2:Aa (2<=P/\2<=Q/\G^Q%P=1):=⟨by rw[<-hP,<-hQ,<-hG];exact⟨dD i HI3.out,Ty i HI3.out,Nn i HI3.out⟩⟩
 have HPf:Aa (Ak P<=16):=⟨by rw[<-hP];exact Ol i HI3.out⟩
 have HQf:Aa (Ak Q<=16):=⟨by rw[<-hQ];exact Ql i HI3.out⟩
 rw[hP,hQ,hG,hH]at hg2
 have HG2:=Ab hg2;have B2:=Ab (Ae B1.out b2);clear hg2 b2 hP hQ hG hH B1
 go_wp2_with fail
 refine(Ja HG2.out).mono ?_;rintro en w3 ⟨r,rfl,hr3,b3⟩;have HR3:=Ab hr3;have B3:=Ab (Ae B2.out b3);have BG3:Aa (Below w2.heap.size w2 w3):=⟨b3⟩
 clear hr3 b3 B2
 go_wp2_with fail
 refine(Co (n:=X) w3 HXl.out).mono ?_;rintro en w4 ⟨x4,rfl,h4,b4⟩;have H4:=Ab h4;have HR4:=Ab (HR3.out.below b4);have BG4:=Ab (Ae BG3.out b4);have B4:=Ab (Ae B3.out b4);clear h4 b4 HR3 BG3 B3;obtain⟨K0,hK0⟩:∃A,X%Q=A:=⟨_,rfl⟩
 have HEK:=Ab hK0;have HKl:Aa (K0<Q):=⟨by rw[<-hK0];exact Nat.mod_lt _ (by have:=HP2.out;omega)⟩
 clear hK0
 go_wp2_with fail
 refine(Eb HR4.out H4.out (by decide)).mono ?_;rintro en w5 ⟨_,rfl,⟨pk,nk,ck,rfl,h5,l5⟩,b5⟩;rw[HEK.out]at h5 l5
 have hb6:Below w5.heap.size w5 (w5.alloc (.cells #[.slice pk nk ck] 37)):=Bx;have hX6:=Af.made w5 (.slice pk nk ck);obtain⟨w6,hw6⟩:∃W,w5.alloc (.cells #[.slice pk nk ck] 37)=W:=⟨_,rfl⟩
 rw[hw6]at hb6 hX6
 obtain⟨b10,hb10⟩:∃b,w5.heap.size=b:=⟨_,rfl⟩
 rw[hb10]at hX6
 have b56:=Ae b5 hb6;have HXK6:=Ab hX6;have HFK6:=Ab ((Fit.of h5 l5).below hb6);have BG6:=Ab (Ae BG4.out b56);have B6:=Ab (Ae B4.out b56);have HB10:Aa (w.heap.size<=b10):=⟨by rw[<-hb10];exact Dn B4.out.size b5.size⟩
 have HBG10:Aa (w2.heap.size<=b10):=⟨by rw[<-hb10];exact Dn BG4.out.size b5.size⟩
 have cK:=hX6.cell;clear h5 l5 b5 hb6 hX6 b56 HR4 BG4 B4 H4
 by_cases hz:K0=0
 .have HZ:Aa _:=⟨decide_eq_true hz⟩
  have HKy:Aa (0<1/\1<Q):=⟨by have:=HP2.out;omega⟩
  clear hz
  go_wp2_with fail
  clear hw6 hb10;refine(Dw HFK6.out HZ.out).mono ?_;rintro en w7 ⟨_,rfl,rfl,b7⟩;have HXK7:=Ab (HXK6.out.below b7 HXK6.out.lt);have BG7:=Ab (Ae BG6.out b7);have B7:=Ab (Ae B6.out b7);clear b7 cK HXK6 HFK6 BG6 B6
  go_wp2_with fail
  refine(Fq w7).mono ?_;rintro en w8 ⟨_,rfl,⟨p1,n1,c1,rfl,h8,l8⟩,b8⟩;have hx8:=HXK7.out.below b8 HXK7.out.lt;have f8:=hx8.free;have c8:=hx8.cell;obtain⟨w9s,hw9⟩:∃W,w8.setCell ⟨b10,0,none⟩ (.slice p1 n1 c1)=W:=⟨_,rfl⟩
  have hxk:=hx8.set (.slice p1 n1 c1);have hfk:=h8.store hx8 (.slice p1 n1 c1);have hbg:Below w2.heap.size w2 (w8.setCell ⟨b10,0,none⟩ (.slice p1 n1 c1)):=(Ae BG7.out b8).setCell HBG10.out _;have hbk:Below w.heap.size w (w8.setCell ⟨b10,0,none⟩ (.slice p1 n1 c1)):=(Ae B7.out b8).setCell HB10.out _;rw[hw9]at hxk hfk hbg hbk
  have HXK:=Ab hxk;have HFK:=Ab (Fit.of hfk l8);have HG:=Ab (HG2.out.below hbg);have HT:=Ab (HT0.out.below hbk HT0.out.size);have HM:=Ab (HM0.out.below hbk);have HB:=Ab hbk;clear hx8 hxk hfk hbg hbk h8 l8 b8 HXK7 BG7 B7;obtain⟨SB,hSB⟩:∃S,Lv P Q G 1 msg=S:=⟨_,rfl⟩
  obtain⟨L,hL⟩:∃L,SB.length=L:=⟨_,rfl⟩
  obtain⟨YY,hYY⟩:∃Y,G^1%P=Y:=⟨_,rfl⟩
  have HOK:Aa (Cv P Q G YY msg SB):=⟨by rw[<-hSB,<-hYY];exact Sv HP2.out.1 (by have:=HP2.out;omega) HP2.out.2.2⟩
  have HS8b:Aa (Au SB):=⟨by rw[<-hSB];exact Fc _ _ _ _ _⟩
  have HL2Q:Aa (2*Ak Q=L):=⟨by rw[<-hL,<-hSB,Jo]⟩
  have hLb:L<=32:=by have h1:=HL2Q.out;have h2:=HQf.out;omega
  have hLp:1<=L:=by
   have h1:=HL2Q.out;have h2:¬Ak Q=0:=fun h=>by
    have h3:=Dj Q;rw[h]at h3
    have h4:=HP2.out.2.1;have h5:Q<1:=h3;omega
   omega
  have cK:=HXK.out.cell
  go_wp2_with fail
  clear hw9 f8 c8;refine(Nd HG.out HT.out HFK.out (by decide) HPf.out HQf.out HM.out HKy.out).mono ?_;rintro en v1 ⟨_,rfl,ho,hb⟩;obtain⟨pb,cb,rfl,hpb,hzb⟩:=ho.part (Fc _ _ _ _ _);simp only[hSB,hL];rw[hSB,hL]at hpb
  have HPB:=Ab hpb;clear ho hpb cK;replace HXK:=Ab (HXK.out.below hb HXK.out.lt);replace HFK:=Ab (HFK.out.below hb);replace HG:=Ab (HG.out.below hb);replace HT:=Ab (HT.out.below hb HT.out.size);replace HM:=Ab (HM.out.below hb);replace HB:=Ab (Ae HB.out hb);clear hb;have cK:=HXK.out.cell
  go_wp2_with fail
  refine(Nd HG.out HT.out HFK.out (by decide) HPf.out HQf.out HM.out HKy.out).mono ?_;rintro en v2 ⟨_,rfl,ho,hb⟩;obtain⟨pc,cc,rfl,hpc,_⟩:=ho.part (Fc _ _ _ _ _);simp only[hSB,hL];rw[hSB,hL]at hpc
  have HPC:=Ab hpc;clear ho hpc cK;replace HXK:=Ab (HXK.out.below hb HXK.out.lt);replace HFK:=Ab (HFK.out.below hb);replace HG:=Ab (HG.out.below hb);replace HT:=Ab (HT.out.below hb HT.out.size);replace HM:=Ab (HM.out.below hb);replace HB:=Ab (Ae HB.out hb);replace HPB:=Ab (HPB.out.below hb);clear hb;have cK:=HXK.out.cell
  go_wp2_with fail
  refine(Kl HG.out HFK.out (by decide) HKy.out).mono ?_;rintro en v3 ⟨_,rfl,⟨py,ny,cy,rfl,hy,ly⟩,hb⟩;rw[hYY]at hy ly
  have hbn:Below v3.heap.size v3 (v3.alloc (.cells #[.slice py ny cy] 37)):=Bx;have hXn:=Af.made v3 (.slice py ny cy);obtain⟨v4,hv4⟩:∃W,v3.alloc (.cells #[.slice py ny cy] 37)=W:=⟨_,rfl⟩
  rw[hv4]at hbn hXn
  have hbn2:=Ae hb hbn;have HXY:=Ab hXn;have HY:Aa (Fit 33 YY (.agg #[.slice py ny cy]) v4):=⟨(Fit.of hy ly).below hbn⟩
  clear cK hy ly hb hbn hXn;replace HXK:=Ab (HXK.out.below hbn2 HXK.out.lt);replace HFK:=Ab (HFK.out.below hbn2);replace HG:=Ab (HG.out.below hbn2);replace HT:=Ab (HT.out.below hbn2 HT.out.size);replace HM:=Ab (HM.out.below hbn2);replace HB:=Ab (Ae HB.out hbn2);replace HPB:=Ab (HPB.out.below hbn2);replace HPC:=Ab (HPC.out.below hbn2);clear hbn2;have cy0:=HXY.out.cell;obtain⟨S,hS⟩:∃S,strOf SB=S:=⟨_,rfl⟩
  have k1:=Fi HPB.out.row;have k2:=Fi HPC.out.row;rw[hS]at k1 k2
  go_wp2_with fail
  clear k1 k2;refine(Dh HG.out HT.out HY.out (by decide) HPf.out HQf.out HM.out HPB.out).mono ?_;rintro en v5 ⟨X5,rfl,hX5,hb⟩;have hXt:X5=true:=hX5.2 HOK.out;subst hXt;have HZB:=Ab hzb;clear hX5 cy0 hS hzb;replace HXK:=Ab (HXK.out.below hb HXK.out.lt);replace HFK:=Ab (HFK.out.below hb);replace HG:=Ab (HG.out.below hb);replace HT:=Ab (HT.out.below hb HT.out.size);replace HM:=Ab (HM.out.below hb);replace HB:=Ab (Ae HB.out hb);replace HPB:=Ab (HPB.out.below hb);replace HXY:=Ab (HXY.out.below hb HXY.out.lt);replace HY:=Ab (HY.out.below hb);clear hb;have hO0:Own (v5.alloc (.cells #[] 5)) v5.heap.size (.slice (some ⟨v5.heap.size,0,none⟩) 0 0) []:=Own.lit v5 [] (by decide);have hb6:Below v5.heap.size v5 (v5.alloc (.cells #[] 5)):=Bx;have hs6:v5.heap.size<=(v5.alloc (.cells #[] 5)).heap.size:=hb6.size;have HO0:=Ab hO0;have HB6:=Ab hb6;have HS6:=Ab hs6;have HRB6:=Ab ((HPB.out.below hb6).row);have HMX:Aa (([]:List Nat).length+L<=140737488355328):=⟨by simp;omega⟩
  clear hO0 hb6 hs6 hv4
  go_wp2_with (at_builtin;refine Cc rfl _ _ rfl rfl HO0.out rfl HRB6.out HZB.out HMX.out HS6.out ?_;intro v1' w7 ho1 hg1;refine De.out ?_)
  refine⟨?_⟩;have hb7:Below v5.heap.size v5 w7:=HB6.out.trans (grown_below hg1 HS6.out HO0.out.ge);have ho1':Own w7 v5.heap.size v1' SB:=ho1;have HB7:=Ab hb7;have HO7:=Ab ho1';have hb8:Below w7.heap.size w7 (w7.alloc (.cells #[.int .u8 (y:Nat)] 5)):=Bx;have hr8:Bd (w7.alloc (.cells #[.int .u8 (y:Nat)] 5)) .u8 (some ⟨w7.heap.size,0,none⟩) 1 1 [y]:=Ds w7 [y] (by simp);have HB8:=Ab hb8;have HR8:=Ab hr8;have HO8:=Ab (ho1'.belowS hb8);have HS8:Aa (v5.heap.size<=(w7.alloc (.cells #[.int .u8 (y:Nat)] 5)).heap.size):=⟨Dn hb7.size hb8.size⟩
  have HMX8:Aa (SB.length+1<=140737488355328):=⟨by omega⟩
  clear hb7 ho1' hb8 hr8 ho1 hg1 HO0 HB6 HRB6 HMX
  go_wp2_with (at_builtin;refine Cc rfl _ _ rfl rfl HO8.out rfl HR8.out (fun h=>by cases h) HMX8.out HS8.out ?_;intro v2' w9 ho2 hg2;refine De.out ?_)
  refine⟨?_⟩;have hb9:Below v5.heap.size v5 w9:=(Ae HB7.out HB8.out).trans (grown_below hg2 HS8.out HO8.out.ge);obtain⟨pl,cl,rfl,hpl,_⟩:=(Bp.mk ho2).part (bs:=SB++[y]) (fun z hz=>by
   rcases List.mem_append.1 hz with h|h
   .exact HS8b.out z h
   .rw[List.mem_singleton.1 h];exact HYb.out)
  obtain⟨nl,hnl⟩:∃n,(SB++[y]).length=n:=⟨_,rfl⟩
  rw[hnl]at hpl
  have HLG:=Ab hpl;have HNL:Aa (nl=L+1):=⟨by rw[<-hnl,List.length_append,hL];rfl⟩
  have HN1:Aa (¬Cv P Q G YY msg (SB++[y])):=⟨fun h=>by
   have h1:=h.1.1;rw[hnl,HNL.out,<-HL2Q.out]at h1
   omega⟩
  simp only[hnl];clear ho2 hg2 hpl hnl HO7 HB7 HB8 HR8 HO8 HMX8;replace HXK:=Ab (HXK.out.below hb9 HXK.out.lt);replace HFK:=Ab (HFK.out.below hb9);replace HG:=Ab (HG.out.below hb9);replace HT:=Ab (HT.out.below hb9 HT.out.size);replace HM:=Ab (HM.out.below hb9);replace HB:=Ab (Ae HB.out hb9);replace HPB:=Ab (HPB.out.below hb9);replace HXY:=Ab (HXY.out.below hb9 HXY.out.lt);replace HY:=Ab (HY.out.below hb9);clear hb9;obtain⟨L1,hL1e⟩:∃L1,L=L1+1:=⟨L-1,by omega⟩
  have hL2:((L:Nat):Int)-1=(L1:Int):=by omega
  have hL1:IntKind.i64.wrap (L1:Int)=(L1:Int):=by rw[IntKind.wrap_i64];omega
  have HSLI:Aa (∀w',(Instr.sliceAt 23 (.slice pb L cb) none (some (.int .i64 (L1:Int))) none).run Tryz.prog w'=.ok (.slice pb L1 cb) w'):=⟨fun w'=>Vn (n:=L) (c:=cb) (W:=L1) (by omega) HPB.out.row.cap w'⟩
  have HSH:Aa (Ax w9 ⟨pb,L1,cb,SB.take L1⟩):=⟨⟨HPB.out.row.take L1 (show L1<=L by omega),HPB.out.bytes.take L1⟩⟩
  have HN2:Aa (¬Cv P Q G YY msg (SB.take L1)):=⟨fun h=>by
   have h1:=h.1.1;rw[List.length_take,hL,HL2Q.out]at h1
   omega⟩
  have HN3:Aa (¬Cv P Q G 0 msg SB):=⟨fun h=>absurd h.2.1.1 (Nat.lt_irrefl _)⟩
  clear hL1e;go_wp2;refine Ah (by kernel_rfl) (by kernel_rfl)
   [some (.pointer (some ⟨b,0,none⟩)),some (.agg #[.slice py ny cy]),some (.slice pm nm cm),some (.slice pl nl cl),none,some (.bool true),some (.bool true),some (.pointer (some ⟨b,0,none⟩)),some (.agg #[.slice py ny cy]),some (.slice pm nm cm),some (.slice pb L cb),some (.slice pb L cb),some (.int .i64 (L:Nat)),some (.int .i64 (L1:Nat)),some (.slice pb L1 cb),none,some (.bool true),some (.bool true),some (.bool true),some (.pointer (some ⟨b,0,none⟩)),some (.agg #[.slice none 0 0]),some (.slice pm nm cm),some (.slice pb L cb),none,some (.bool true),some (.bool true),some (.bool true)]
   [false,false,false,false,true,false,false,false,false,false,false,false,false,false,false,true,false,false,false,false,false,false,false,true,false,false,false] rfl
   (fun w1 w2=>Below w1.heap.size w1 w2)
   (fun _ w'=>Below w9.heap.size w9 w')
   (fun i v w'=>match i with
    | 4=>v=.bool false
    | 15=>v=.bool false
    | 23=>v=.bool false
    | _=>True)
   ?_ (Bb _ _).drew ?_ ?_
  .intro i v w1 w2 hf hb;split at hf
   .exact hf
   .exact hf
   .exact hf
   .trivial
  .simp only[Ba,Nat.reduceAdd];refine⟨?_,?_,?_,?_,?_,?_,?_,?_,?_,?_,?_,?_,?_,?_,?_,?_,?_,?_,?_,?_,?_,?_,?_,?_,?_,?_,?_,trivial⟩
   all_goals intro D sp w' hD hW hdp hbx'
   case refine_2|refine_9=>
    have c0:=(HXY.out.below hbx' HXY.out.lt).cell
    with_reducible refine Ad ?_ ?_
    all_goals simp[Region.wanted,yielded,execOp,Act.eval,Act.put,go_sem,c0]
   case refine_5=>
    (with_reducible refine Ac (w1:=w') (f := 27) (args:=#[.pointer (some ⟨b,0,none⟩),.agg #[.slice py ny cy],.slice pm nm cm,.slice pl nl cl]) ?_ ?_ ?_)
    .simp[Region.wanted,yielded,Act.put,go_sem]
    .simp[Act.eval,Act.put,go_sem]
    .refine(Dh (HG.out.below hbx') (HT.out.below hbx' HT.out.size) (HY.out.below hbx') (by decide) HPf.out HQf.out (HM.out.below hbx') (HLG.out.below hbx')).mono ?_;rintro en w9 ⟨X9,rfl,hX9,hb⟩;have hf9:=Qg hX9 HN1.out;rw[hf9];exact⟨_,rfl,hb,rfl,Ae hbx' hb⟩
   case refine_6=>
    have k4:(sp 4)=.bool false:=(hdp 4 (mq (by kernel_rfl))).2
    with_reducible refine Ad ?_ ?_
    all_goals simp[Region.wanted,yielded,execOp,Act.eval,Act.put,go_sem,k4]
   case refine_13=>
    (with_reducible refine Ai (w1:=w') (v:=.int .i64 (L:Nat)) ?_ ?_ ?_)
    .simp[Region.wanted,yielded,Act.put,go_sem]
    .simp[Act.eval,Act.put,go_sem]
    .exact⟨rfl,rfl⟩
   case refine_14=>
    (with_reducible refine Ai (w1:=w') (v:=.int .i64 (L1:Nat)) ?_ ?_ ?_)
    .simp[Region.wanted,yielded,Act.put,go_sem]
    .simp[execOp,Act.eval,Act.put,go_sem,hL1,hL2]
    .exact⟨rfl,rfl⟩
   case refine_15=>
    have cs:=HSLI.out w'
    with_reducible refine Ad ?_ ?_
    all_goals simp[Region.wanted,yielded,execOp,Act.eval,Act.put,go_sem,cs]
   case refine_16=>
    (with_reducible refine Ac (w1:=w') (f := 27) (args:=#[.pointer (some ⟨b,0,none⟩),.agg #[.slice py ny cy],.slice pm nm cm,.slice pb L1 cb]) ?_ ?_ ?_)
    .simp[Region.wanted,yielded,Act.put,go_sem]
    .simp[Act.eval,Act.put,go_sem]
    .refine(Dh (HG.out.below hbx') (HT.out.below hbx' HT.out.size) (HY.out.below hbx') (by decide) HPf.out HQf.out (HM.out.below hbx') (HSH.out.below hbx')).mono ?_;rintro en w9 ⟨X9,rfl,hX9,hb⟩;have hf9:=Qg hX9 HN2.out;rw[hf9];exact⟨_,rfl,hb,rfl,Ae hbx' hb⟩
   case refine_17=>
    have k15:(sp 15)=.bool false:=(hdp 15 (mq (by kernel_rfl))).2
    with_reducible refine Ad ?_ ?_
    all_goals simp[Region.wanted,yielded,execOp,Act.eval,Act.put,go_sem,k15]
   case refine_24=>
    (with_reducible refine Ac (w1:=w') (f := 27) (args:=#[.pointer (some ⟨b,0,none⟩),.agg #[.slice none 0 0],.slice pm nm cm,.slice pb L cb]) ?_ ?_ ?_)
    .simp[Region.wanted,yielded,Act.put,go_sem]
    .simp[Act.eval,Act.put,go_sem]
    .refine(Dh (HG.out.below hbx') (HT.out.below hbx' HT.out.size) ((Fit.of (Aj.nil _) (by decide):Fit 33 0 (.agg #[.slice none 0 0]) w')) (by decide) HPf.out HQf.out (HM.out.below hbx') (HPB.out.below hbx')).mono ?_;rintro en w9 ⟨X9,rfl,hX9,hb⟩;have hf9:=Qg hX9 HN3.out;rw[hf9];exact⟨_,rfl,hb,rfl,Ae hbx' hb⟩
   case refine_25=>
    have k23:(sp 23)=.bool false:=(hdp 23 (mq (by kernel_rfl))).2
    with_reducible refine Ad ?_ ?_
    all_goals simp[Region.wanted,yielded,execOp,Act.eval,Act.put,go_sem,k23]
   all_goals ((with_reducible refine Ad ?_ ?_);all_goals first|(simp only[Region.wanted];done)|simp[Region.wanted,yielded,execOp,Act.eval,Act.put,go_sem])
  .intro sp w10 hsp hb10;have HBf:=Ab (Ae HB.out hb10);clear hsp hb10 hL1 hL2;simp only[An,Nat.reduceAdd];generalize sp 4=y4,sp 15=y15,sp 23=y23 at *
   go_simp
   go_wp2;go_ret;exact⟨rfl,HBf.out⟩
 .have HZ:Aa _:=⟨decide_eq_false hz⟩
  have HKy:Aa (0<K0/\K0<Q):=⟨by have:=HKl.out;omega⟩
  clear hz
  go_wp2_with fail
  clear hw6 hb10;refine(Dw HFK6.out HZ.out).mono ?_;rintro en w7 ⟨_,rfl,rfl,b7⟩;have HXK:=Ab (HXK6.out.below b7 HXK6.out.lt);have HFK:=Ab (HFK6.out.below b7);have HG:=Ab (HG2.out.below (Ae BG6.out b7));have hbk:=Ae B6.out b7;have HT:=Ab (HT0.out.below hbk HT0.out.size);have HM:=Ab (HM0.out.below hbk);have HB:=Ab hbk;clear b7 hbk cK HXK6 HFK6 BG6 B6;obtain⟨SB,hSB⟩:∃S,Lv P Q G K0 msg=S:=⟨_,rfl⟩
  obtain⟨L,hL⟩:∃L,SB.length=L:=⟨_,rfl⟩
  obtain⟨YY,hYY⟩:∃Y,G^K0%P=Y:=⟨_,rfl⟩
  have HOK:Aa (Cv P Q G YY msg SB):=⟨by rw[<-hSB,<-hYY];exact Sv HP2.out.1 (by have:=HP2.out;omega) HP2.out.2.2⟩
  have HS8b:Aa (Au SB):=⟨by rw[<-hSB];exact Fc _ _ _ _ _⟩
  have HL2Q:Aa (2*Ak Q=L):=⟨by rw[<-hL,<-hSB,Jo]⟩
  have hLb:L<=32:=by have h1:=HL2Q.out;have h2:=HQf.out;omega
  have hLp:1<=L:=by
   have h1:=HL2Q.out;have h2:¬Ak Q=0:=fun h=>by
    have h3:=Dj Q;rw[h]at h3
    have h4:=HP2.out.2.1;have h5:Q<1:=h3;omega
   omega
  have cK:=HXK.out.cell
  go_wp2_with fail
  refine(Nd HG.out HT.out HFK.out (by decide) HPf.out HQf.out HM.out HKy.out).mono ?_;rintro en v1 ⟨_,rfl,ho,hb⟩;obtain⟨pb,cb,rfl,hpb,hzb⟩:=ho.part (Fc _ _ _ _ _);simp only[hSB,hL];rw[hSB,hL]at hpb
  have HPB:=Ab hpb;clear ho hpb cK;replace HXK:=Ab (HXK.out.below hb HXK.out.lt);replace HFK:=Ab (HFK.out.below hb);replace HG:=Ab (HG.out.below hb);replace HT:=Ab (HT.out.below hb HT.out.size);replace HM:=Ab (HM.out.below hb);replace HB:=Ab (Ae HB.out hb);clear hb;have cK:=HXK.out.cell
  go_wp2_with fail
  refine(Nd HG.out HT.out HFK.out (by decide) HPf.out HQf.out HM.out HKy.out).mono ?_;rintro en v2 ⟨_,rfl,ho,hb⟩;obtain⟨pc,cc,rfl,hpc,_⟩:=ho.part (Fc _ _ _ _ _);simp only[hSB,hL];rw[hSB,hL]at hpc
  have HPC:=Ab hpc;clear ho hpc cK;replace HXK:=Ab (HXK.out.below hb HXK.out.lt);replace HFK:=Ab (HFK.out.below hb);replace HG:=Ab (HG.out.below hb);replace HT:=Ab (HT.out.below hb HT.out.size);replace HM:=Ab (HM.out.below hb);replace HB:=Ab (Ae HB.out hb);replace HPB:=Ab (HPB.out.below hb);clear hb;have cK:=HXK.out.cell
  go_wp2_with fail
  refine(Kl HG.out HFK.out (by decide) HKy.out).mono ?_;rintro en v3 ⟨_,rfl,⟨py,ny,cy,rfl,hy,ly⟩,hb⟩;rw[hYY]at hy ly
  have hbn:Below v3.heap.size v3 (v3.alloc (.cells #[.slice py ny cy] 37)):=Bx;have hXn:=Af.made v3 (.slice py ny cy);obtain⟨v4,hv4⟩:∃W,v3.alloc (.cells #[.slice py ny cy] 37)=W:=⟨_,rfl⟩
  rw[hv4]at hbn hXn
  have hbn2:=Ae hb hbn;have HXY:=Ab hXn;have HY:Aa (Fit 33 YY (.agg #[.slice py ny cy]) v4):=⟨(Fit.of hy ly).below hbn⟩
  clear cK hy ly hb hbn hXn;replace HXK:=Ab (HXK.out.below hbn2 HXK.out.lt);replace HFK:=Ab (HFK.out.below hbn2);replace HG:=Ab (HG.out.below hbn2);replace HT:=Ab (HT.out.below hbn2 HT.out.size);replace HM:=Ab (HM.out.below hbn2);replace HB:=Ab (Ae HB.out hbn2);replace HPB:=Ab (HPB.out.below hbn2);replace HPC:=Ab (HPC.out.below hbn2);clear hbn2;have cy0:=HXY.out.cell;obtain⟨S,hS⟩:∃S,strOf SB=S:=⟨_,rfl⟩
  have k1:=Fi HPB.out.row;have k2:=Fi HPC.out.row;rw[hS]at k1 k2
  go_wp2_with fail
  clear k1 k2;refine(Dh HG.out HT.out HY.out (by decide) HPf.out HQf.out HM.out HPB.out).mono ?_;rintro en v5 ⟨X5,rfl,hX5,hb⟩;have hXt:X5=true:=hX5.2 HOK.out;subst hXt;have HZB:=Ab hzb;clear hX5 cy0 hS hzb;replace HXK:=Ab (HXK.out.below hb HXK.out.lt);replace HFK:=Ab (HFK.out.below hb);replace HG:=Ab (HG.out.below hb);replace HT:=Ab (HT.out.below hb HT.out.size);replace HM:=Ab (HM.out.below hb);replace HB:=Ab (Ae HB.out hb);replace HPB:=Ab (HPB.out.below hb);replace HXY:=Ab (HXY.out.below hb HXY.out.lt);replace HY:=Ab (HY.out.below hb);clear hb;have hO0:Own (v5.alloc (.cells #[] 5)) v5.heap.size (.slice (some ⟨v5.heap.size,0,none⟩) 0 0) []:=Own.lit v5 [] (by decide);have hb6:Below v5.heap.size v5 (v5.alloc (.cells #[] 5)):=Bx;have hs6:v5.heap.size<=(v5.alloc (.cells #[] 5)).heap.size:=hb6.size;have HO0:=Ab hO0;have HB6:=Ab hb6;have HS6:=Ab hs6;have HRB6:=Ab ((HPB.out.below hb6).row);have HMX:Aa (([]:List Nat).length+L<=140737488355328):=⟨by simp;omega⟩
  clear hO0 hb6 hs6 hv4
  go_wp2_with (at_builtin;refine Cc rfl _ _ rfl rfl HO0.out rfl HRB6.out HZB.out HMX.out HS6.out ?_;intro v1' w7 ho1 hg1;refine De.out ?_)
  refine⟨?_⟩;have hb7:Below v5.heap.size v5 w7:=HB6.out.trans (grown_below hg1 HS6.out HO0.out.ge);have ho1':Own w7 v5.heap.size v1' SB:=ho1;have HB7:=Ab hb7;have HO7:=Ab ho1';have hb8:Below w7.heap.size w7 (w7.alloc (.cells #[.int .u8 (y:Nat)] 5)):=Bx;have hr8:Bd (w7.alloc (.cells #[.int .u8 (y:Nat)] 5)) .u8 (some ⟨w7.heap.size,0,none⟩) 1 1 [y]:=Ds w7 [y] (by simp);have HB8:=Ab hb8;have HR8:=Ab hr8;have HO8:=Ab (ho1'.belowS hb8);have HS8:Aa (v5.heap.size<=(w7.alloc (.cells #[.int .u8 (y:Nat)] 5)).heap.size):=⟨Dn hb7.size hb8.size⟩
  have HMX8:Aa (SB.length+1<=140737488355328):=⟨by omega⟩
  clear hb7 ho1' hb8 hr8 ho1 hg1 HO0 HB6 HRB6 HMX
  go_wp2_with (at_builtin;refine Cc rfl _ _ rfl rfl HO8.out rfl HR8.out (fun h=>by cases h) HMX8.out HS8.out ?_;intro v2' w9 ho2 hg2;refine De.out ?_)
  refine⟨?_⟩;have hb9:Below v5.heap.size v5 w9:=(Ae HB7.out HB8.out).trans (grown_below hg2 HS8.out HO8.out.ge);obtain⟨pl,cl,rfl,hpl,_⟩:=(Bp.mk ho2).part (bs:=SB++[y]) (fun z hz=>by
   rcases List.mem_append.1 hz with h|h
   .exact HS8b.out z h
   .rw[List.mem_singleton.1 h];exact HYb.out)
  obtain⟨nl,hnl⟩:∃n,(SB++[y]).length=n:=⟨_,rfl⟩
  rw[hnl]at hpl
  have HLG:=Ab hpl;have HNL:Aa (nl=L+1):=⟨by rw[<-hnl,List.length_append,hL];rfl⟩
  have HN1:Aa (¬Cv P Q G YY msg (SB++[y])):=⟨fun h=>by
   have h1:=h.1.1;rw[hnl,HNL.out,<-HL2Q.out]at h1
   omega⟩
  simp only[hnl];clear ho2 hg2 hpl hnl HO7 HB7 HB8 HR8 HO8 HMX8;replace HXK:=Ab (HXK.out.below hb9 HXK.out.lt);replace HFK:=Ab (HFK.out.below hb9);replace HG:=Ab (HG.out.below hb9);replace HT:=Ab (HT.out.below hb9 HT.out.size);replace HM:=Ab (HM.out.below hb9);replace HB:=Ab (Ae HB.out hb9);replace HPB:=Ab (HPB.out.below hb9);replace HXY:=Ab (HXY.out.below hb9 HXY.out.lt);replace HY:=Ab (HY.out.below hb9);clear hb9;obtain⟨L1,hL1e⟩:∃L1,L=L1+1:=⟨L-1,by omega⟩
  have hL2:((L:Nat):Int)-1=(L1:Int):=by omega
  have hL1:IntKind.i64.wrap (L1:Int)=(L1:Int):=by rw[IntKind.wrap_i64];omega
  have HSLI:Aa (∀w',(Instr.sliceAt 23 (.slice pb L cb) none (some (.int .i64 (L1:Int))) none).run Tryz.prog w'=.ok (.slice pb L1 cb) w'):=⟨fun w'=>Vn (n:=L) (c:=cb) (W:=L1) (by omega) HPB.out.row.cap w'⟩
  have HSH:Aa (Ax w9 ⟨pb,L1,cb,SB.take L1⟩):=⟨⟨HPB.out.row.take L1 (show L1<=L by omega),HPB.out.bytes.take L1⟩⟩
  have HN2:Aa (¬Cv P Q G YY msg (SB.take L1)):=⟨fun h=>by
   have h1:=h.1.1;rw[List.length_take,hL,HL2Q.out]at h1
   omega⟩
  have HN3:Aa (¬Cv P Q G 0 msg SB):=⟨fun h=>absurd h.2.1.1 (Nat.lt_irrefl _)⟩
  clear hL1e;go_wp2;refine Ah (by kernel_rfl) (by kernel_rfl)
   [some (.pointer (some ⟨b,0,none⟩)),some (.agg #[.slice py ny cy]),some (.slice pm nm cm),some (.slice pl nl cl),none,some (.bool true),some (.bool true),some (.pointer (some ⟨b,0,none⟩)),some (.agg #[.slice py ny cy]),some (.slice pm nm cm),some (.slice pb L cb),some (.slice pb L cb),some (.int .i64 (L:Nat)),some (.int .i64 (L1:Nat)),some (.slice pb L1 cb),none,some (.bool true),some (.bool true),some (.bool true),some (.pointer (some ⟨b,0,none⟩)),some (.agg #[.slice none 0 0]),some (.slice pm nm cm),some (.slice pb L cb),none,some (.bool true),some (.bool true),some (.bool true)]
   [false,false,false,false,true,false,false,false,false,false,false,false,false,false,false,true,false,false,false,false,false,false,false,true,false,false,false] rfl
   (fun w1 w2=>Below w1.heap.size w1 w2)
   (fun _ w'=>Below w9.heap.size w9 w')
   (fun i v w'=>match i with
    | 4=>v=.bool false
    | 15=>v=.bool false
    | 23=>v=.bool false
    | _=>True)
   ?_ (Bb _ _).drew ?_ ?_
  .intro i v w1 w2 hf hb;split at hf
   .exact hf
   .exact hf
   .exact hf
   .trivial
  .simp only[Ba,Nat.reduceAdd];refine⟨?_,?_,?_,?_,?_,?_,?_,?_,?_,?_,?_,?_,?_,?_,?_,?_,?_,?_,?_,?_,?_,?_,?_,?_,?_,?_,?_,trivial⟩
   all_goals intro D sp w' hD hW hdp hbx'
   case refine_2|refine_9=>
    have c0:=(HXY.out.below hbx' HXY.out.lt).cell
    with_reducible refine Ad ?_ ?_
    all_goals simp[Region.wanted,yielded,execOp,Act.eval,Act.put,go_sem,c0]
   case refine_5=>
    (with_reducible refine Ac (w1:=w') (f := 27) (args:=#[.pointer (some ⟨b,0,none⟩),.agg #[.slice py ny cy],.slice pm nm cm,.slice pl nl cl]) ?_ ?_ ?_)
    .simp[Region.wanted,yielded,Act.put,go_sem]
    .simp[Act.eval,Act.put,go_sem]
    .refine(Dh (HG.out.below hbx') (HT.out.below hbx' HT.out.size) (HY.out.below hbx') (by decide) HPf.out HQf.out (HM.out.below hbx') (HLG.out.below hbx')).mono ?_;rintro en w9 ⟨X9,rfl,hX9,hb⟩;have hf9:=Qg hX9 HN1.out;rw[hf9];exact⟨_,rfl,hb,rfl,Ae hbx' hb⟩
   case refine_6=>
    have k4:(sp 4)=.bool false:=(hdp 4 (mq (by kernel_rfl))).2
    with_reducible refine Ad ?_ ?_
    all_goals simp[Region.wanted,yielded,execOp,Act.eval,Act.put,go_sem,k4]
   case refine_13=>
    (with_reducible refine Ai (w1:=w') (v:=.int .i64 (L:Nat)) ?_ ?_ ?_)
    .simp[Region.wanted,yielded,Act.put,go_sem]
    .simp[Act.eval,Act.put,go_sem]
    .exact⟨rfl,rfl⟩
   case refine_14=>
    (with_reducible refine Ai (w1:=w') (v:=.int .i64 (L1:Nat)) ?_ ?_ ?_)
    .simp[Region.wanted,yielded,Act.put,go_sem]
    .simp[execOp,Act.eval,Act.put,go_sem,hL1,hL2]
    .exact⟨rfl,rfl⟩
   case refine_15=>
    have cs:=HSLI.out w'
    with_reducible refine Ad ?_ ?_
    all_goals simp[Region.wanted,yielded,execOp,Act.eval,Act.put,go_sem,cs]
   case refine_16=>
    (with_reducible refine Ac (w1:=w') (f := 27) (args:=#[.pointer (some ⟨b,0,none⟩),.agg #[.slice py ny cy],.slice pm nm cm,.slice pb L1 cb]) ?_ ?_ ?_)
    .simp[Region.wanted,yielded,Act.put,go_sem]
    .simp[Act.eval,Act.put,go_sem]
    .refine(Dh (HG.out.below hbx') (HT.out.below hbx' HT.out.size) (HY.out.below hbx') (by decide) HPf.out HQf.out (HM.out.below hbx') (HSH.out.below hbx')).mono ?_;rintro en w9 ⟨X9,rfl,hX9,hb⟩;have hf9:=Qg hX9 HN2.out;rw[hf9];exact⟨_,rfl,hb,rfl,Ae hbx' hb⟩
   case refine_17=>
    have k15:(sp 15)=.bool false:=(hdp 15 (mq (by kernel_rfl))).2
    with_reducible refine Ad ?_ ?_
    all_goals simp[Region.wanted,yielded,execOp,Act.eval,Act.put,go_sem,k15]
   case refine_24=>
    (with_reducible refine Ac (w1:=w') (f := 27) (args:=#[.pointer (some ⟨b,0,none⟩),.agg #[.slice none 0 0],.slice pm nm cm,.slice pb L cb]) ?_ ?_ ?_)
    .simp[Region.wanted,yielded,Act.put,go_sem]
    .simp[Act.eval,Act.put,go_sem]
    .refine(Dh (HG.out.below hbx') (HT.out.below hbx' HT.out.size) ((Fit.of (Aj.nil _) (by decide):Fit 33 0 (.agg #[.slice none 0 0]) w')) (by decide) HPf.out HQf.out (HM.out.below hbx') (HPB.out.below hbx')).mono ?_;rintro en w9 ⟨X9,rfl,hX9,hb⟩;have hf9:=Qg hX9 HN3.out;rw[hf9];exact⟨_,rfl,hb,rfl,Ae hbx' hb⟩
   case refine_25=>
    have k23:(sp 23)=.bool false:=(hdp 23 (mq (by kernel_rfl))).2
    with_reducible refine Ad ?_ ?_
    all_goals simp[Region.wanted,yielded,execOp,Act.eval,Act.put,go_sem,k23]
   all_goals ((with_reducible refine Ad ?_ ?_);all_goals first|(simp only[Region.wanted];done)|simp[Region.wanted,yielded,execOp,Act.eval,Act.put,go_sem])
  .intro sp w10 hsp hb10;have HBf:=Ab (Ae HB.out hb10);clear hsp hb10 hL1 hL2;simp only[An,Nat.reduceAdd];generalize sp 4=y4,sp 15=y15,sp 23=y23 at *
   go_simp
   go_wp2;go_ret;exact⟨rfl,HBf.out⟩
end Go.Proofs.YtokhckjemidbpaaGreatDoor
