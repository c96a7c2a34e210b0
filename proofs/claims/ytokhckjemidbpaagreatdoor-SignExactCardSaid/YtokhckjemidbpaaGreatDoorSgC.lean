/- A group's inverse; a signature's bytes; its draw. -/
import Derived.Test.YtokhckjemidbpaaGreatDoorAnsw
set_option maxRecDepth 1000000
set_option maxHeartbeats 16000000
set_option linter.all false
namespace Go.Proofs.YtokhckjemidbpaaGreatDoor
open Go Go.RowKit Go.Proofs.YtokhckjemidbpaaGreatDoor.Flow
theorem Own.ofBlk {w:World}{B g n:Nat}{bs:List Nat}(h:Bm w g 5 .u8 bs)(hB:B<=g)(hn:n=bs.length)(hm:n<=1000):Own w B (.slice (some ⟨g,0,none⟩) n n) bs:=by
 subst hn;refine⟨⟨by simp,.inr ⟨g,bs.length,_,rfl,hB,h,As _,by simp only[maxLen];omega,by simp,?_⟩⟩⟩;rw[List.take_of_length_le (by simp)]
structure Ey (w:World) (b:Nat) (u v:Value):Prop where
 at_:w.heap[b]? = some (.cells #[u,v] 125 (0,0))
theorem Ey.lt {w:World}{b:Nat}{u v:Value}(h:Ey w b u v):b<w.heap.size:=(Kv h.at_).1
theorem Ey.below {w w':World}{B b:Nat}{u v:Value}(h:Ey w b u v)(hb:Below B w w')(hB:b<B):Ey w' b u v:=⟨by rw[hb.block b hB];exact h.at_⟩
theorem Ey.cells {w:World}{b:Nat}{u v:Value}(h:Ey w b u v):w.cell? ⟨b,0,none⟩=some u/\w.cell? ⟨b,1,none⟩=some v:=by
 have:=h.at_
 simp[World.cell?,this]
theorem Ey.free {w:World}{b:Nat}{u v:Value}(h:Ey w b u v)(j:Nat):w.frozen? ⟨b,j,none⟩=false:=by
 have:=h.at_
 simp[World.frozen?,this]
theorem Ey.made (w:World)(u v:Value):Ey (w.alloc (.cells #[u,v] 125)) w.heap.size u v:=⟨heap_alloc_new w _⟩
theorem lF {w:World}{b P Q G H e A:Nat}{v:Value}(h:Bc w b P Q G H)(hv:Fit e A v w)(he:e<=30000) :
  Calls Tryz.prog 150 #[.pointer (some ⟨b,0,none⟩),v] w fun e w'=>∃x,e=.returned x/\Fit 33 (Tt P A) x w'/\Below w.heap.size w w':=by
 obtain⟨pa,na,ca,rfl,h1,h2⟩:=Aw hv;have hbx:=eU.mk2 w (.slice pa na ca) (.slice none 0 0);have hbl:=h.lt;obtain⟨wa,hwa⟩:∃wa,(w.alloc (.cells #[.slice pa na ca] 37)).alloc (.cells #[.slice none 0 0] 37)=wa:=⟨_,rfl⟩
 rw[hwa]at hbx
 have hP:=h.lims;obtain⟨rp,rq,pg,ng,cg,ph,nh,ch,g1,g2,_⟩:=h.ex;have HL:Aa (b<w.heap.size/\rp<w.heap.size):=⟨hbl,g2.at_.lt⟩
 have HGr:=Ab ((hbx.bel.block b hbl).trans g1);have HR:=Ab (g2.below hbx.bel);have HA:=Ab ((Fit.of h1 h2).below hbx.bel);obtain⟨INV,hINV⟩:∃I,Tt P A=I:=⟨_,rfl⟩
 obtain⟨KK,hKK⟩:∃K:Int,(if Nat.gcd P A=1 then 0 else 6)=K:=⟨_,rfl⟩
 have HKK:=Ab hKK;have HINV:Aa (∀X,Mx P A X->X=INV):=⟨fun X hX=>by rw[<-hINV];exact eN hP.1 hX⟩
 have HIL:Aa (INV<Ar 33):=⟨by
  have hi:=Ph hP.1 A;rw[hINV]at hi
  by_cases hg:Nat.gcd P A=1
  .exact Nat.lt_trans (hi.1 hg).1 hP.2.1
  .rw[hi.2 hg];decide⟩
 rw[hINV];have HBX:=Ab hbx;have HSZ:Aa (w.heap.size+1+1<=wa.heap.size):=⟨hbx.b1.lt⟩
 have HLT:Aa (∀g∈([(w.heap.size,.cells #[.slice pa na ca] 37 (0,0)),(w.heap.size+1,.cells #[.slice none 0 0] 37 (0,0))]:List (Nat×Obj)),g.1<wa.heap.size):=⟨List.forall_mem_cons.2 ⟨by simp only;have:=HSZ.out;omega,List.forall_mem_cons.2 ⟨by simp only;have:=HSZ.out;omega,fun g hx=>by cases hx⟩⟩⟩
 clear hINV hKK hP g1 g2 h1 h2 hbx hbl h hv;go_enter Tryz.func150,Tryz.ntmps150;go_wp2;refine Am (by kernel_rfl) (by kernel_rfl)
  [some (.pointer (some ⟨b,0,none⟩)),none,some (.pointer (some ⟨b,0,none⟩)),some (.pointer (some ⟨b,0,none⟩)),some (.pointer (some ⟨rp,0,none⟩)),some (.agg #[.slice pa na ca]),none,none,none,some (.int .i64 KK),none,none,some (.int .i64 KK)]
  [false,true,false,false,false,false,true,true,true,false,true,true,false] rfl
  (fun wA wB=>Ap (w.heap.size) wA wB)
  (fun D sp w'=>RG (w.heap.size) wa [(w.heap.size,.cells #[.slice pa na ca] 37 (0,0)),(w.heap.size+1,.cells #[.slice none 0 0] 37 (0,0))] w'/\Qt (D 10) (D 11) (sp 10) (wa.heap.size) (INV) w')
  (fun i v w'=>match i with
   | 1=>v=.pointer (some ⟨b,0,none⟩)
   | 6=>Gh 33 INV (.int .i64 KK) v w'
   | 7=>Gh 33 INV (.int .i64 KK) v w'
   | 8=>Fit (33) (INV) v w'
   | _=>True)
  ?_ ⟨RG.start HBX.out.bel.size (List.forall_mem_cons.2 ⟨HBX.out.b0,List.forall_mem_cons.2 ⟨HBX.out.b1,fun x hx=>by cases hx⟩⟩),Qt.start (As _)⟩ ?_ ?_
 .intro i v wA wB hf hb;split at hf
  .exact hf
  .exact hf.keep hb
  .exact hf.keep hb
  .exact hf.keep hb
  .trivial
 .simp only[Bf,Nat.reduceAdd];refine⟨?_,?_,?_,?_,?_,?_,?_,?_,?_,?_,?_,?_,?_,trivial⟩
  all_goals intro D sp w' hD hW hdp hg
  case refine_2=>
   (with_reducible refine Ac (w1:=w') (f := 81) (args:=#[.pointer (some ⟨b,0,none⟩)]) ?_ ?_ ?_)
   .simp[Region.wanted,yielded,Act.put,go_sem]
   .simp[Act.eval,Act.put,go_sem]
   .refine(Eo w' b).mono ?_;rintro en w9 ⟨rfl,rfl⟩;exact⟨_,rfl,Ap.same _ _,rfl,hg.1,by simpa [upd]using hg.2⟩
  case refine_3=>
   have k1:(sp 1)=.pointer (some ⟨b,0,none⟩):=(hdp 1 (mq (by kernel_rfl))).2
   with_reducible refine Ad ?_ ?_
   all_goals simp[Region.wanted,yielded,execOp,Act.eval,Act.put,go_sem,k1]
  case refine_5=>
   have c0:=(Dc ((hg.1.keep.bel.block b HL.out.1).trans HGr.out)).1
   with_reducible refine Ad ?_ ?_
   all_goals simp[Region.wanted,yielded,execOp,Act.eval,Act.put,go_sem,c0]
  case refine_6=>
   have c0:w'.cell? ⟨w.heap.size,0,none⟩=some (.slice pa na ca):=Af.cell (hg.1.of List.mem_cons_self)
   with_reducible refine Ad ?_ ?_
   all_goals simp[Region.wanted,yielded,execOp,Act.eval,Act.put,go_sem,c0]
  case refine_7=>
   (with_reducible refine Ac (w1:=w') (f := 54) (args:=#[.pointer (some ⟨rp,0,none⟩),.agg #[.slice pa na ca]]) ?_ ?_ ?_)
   .simp[Region.wanted,yielded,Act.put,go_sem]
   .simp[Act.eval,Act.put,go_sem]
   .refine(oL (HR.out.keep HL.out.2 hg.1.keep) (HA.out.keep hg.1.keep) (by omega)).mono ?_;rintro en w9 ⟨_,X9,rfl,⟨p9,n9,c9,rfl,u1,u2⟩,hI,hb⟩;rw[HINV.out X9 hI]at u1 u2
    rw[HKK.out];exact⟨_,rfl,Ap.of hb hg.1.base,⟨p9,n9,c9,rfl,u1,u2⟩,hg.1.later hb,by simpa [upd]using hg.2.later hb⟩
  case refine_8=>
   have k6:Gh 33 INV (.int .i64 KK) (sp 6) w':=(hdp 6 (mq (by kernel_rfl))).2
   (with_reducible refine Ai (w1:=w') (v:=sp 6) ?_ ?_ ?_)
   .simp[Region.wanted,yielded,Act.put,go_sem]
   .simp[execOp,Act.eval,Act.put,go_sem]
   .exact⟨Ap.same _ _,k6,hg.1,by simpa [upd]using hg.2⟩
  case refine_9=>
   have hx:∃p n c,sp 7=.tuple #[.agg #[.slice p n c],.int .i64 KK]/\Aj w' p n c (INV)/\INV<Ar (33):=(hdp 7 (mq (by kernel_rfl))).2
   (with_reducible refine Ay hx fun p hx1=>Ay hx1 fun n hx2=>Ay hx2 fun c hx3=>?_)
   have h1:=hx3.1
   (with_reducible refine Ai (w1:=w') (v:=.agg #[.slice p n c]) ?_ ?_ ?_)
   .simp[Region.wanted,yielded,Act.put,go_sem]
   .simp[execOp,Act.eval,Act.put,go_sem,h1]
   .exact⟨Ap.same _ _,⟨p,n,c,rfl,hx3.2⟩,hg.1,by simpa [upd]using hg.2⟩
  case refine_10=>
   have hx:∃p n c,sp 7=.tuple #[.agg #[.slice p n c],.int .i64 KK]/\Aj w' p n c (INV)/\INV<Ar (33):=(hdp 7 (mq (by kernel_rfl))).2
   (with_reducible refine Ay hx fun p hx1=>Ay hx1 fun n hx2=>Ay hx2 fun c hx3=>?_)
   have h1:=hx3.1
   with_reducible refine Ad ?_ ?_
   all_goals simp[Region.wanted,yielded,execOp,Act.eval,Act.put,go_sem,h1]
  case refine_11=>
   have h9:D 11=false:=hW 11 (mq (by kernel_rfl));rw[hD,h9]at hg
   (with_reducible refine Ai (w1:=w'.alloc (.cells #[.slice none 0 0] 37)) (v:=.pointer (some ⟨w'.heap.size,0,none⟩)) ?_ ?_ ?_)
   .simp[Region.wanted,yielded,Act.put,go_sem]
   .simp[execOp,go_sem]
   .have hb:Below w'.heap.size w' (w'.alloc (.cells #[.slice none 0 0] 37)):=Bx;refine⟨Ap.of hb hg.1.base,trivial,hg.1.later hb,?_⟩;have h8:=hg.2.made;simpa [upd,h9]using h8
  case refine_12=>
   have hx:∃p n c,sp 8=.agg #[.slice p n c]/\Aj w' p n c (INV)/\INV<Ar (33):=(hdp 8 (mq (by kernel_rfl))).2
   (with_reducible refine Ay hx fun p hx1=>Ay hx1 fun n hx2=>Ay hx2 fun c hx3=>?_)
   have h1:=hx3.1;have h9:D 10=true:=(hdp 10 (mq (by kernel_rfl))).1;rw[h9]at hg
   have hp:=hg.2.put (hx3.2.1)
   (with_reducible refine Ay hp fun b hy0=>Ay hy0 fun q hy1=>Ay hy1 fun m hy2=>Ay hy2 fun k hy3=>?_)
   have h3:=hy3.1;have h6:=hy3.2.2.1.cell;have h7:=hy3.2.2.1.free
   (with_reducible refine Aq (w1:=w'.setCell ⟨b,0,none⟩ (.slice p n c)) ?_ ?_ ?_)
   .simp[Region.wanted,yielded,Act.put,go_sem]
   .simp[execOp,Act.eval,Act.put,go_sem,h1,h3,h6,h7]
   .refine⟨Ap.store hy3.2.2.1 (Dn HBX.out.bel.size hy3.2.1) _,trivial,hg.1.store_over hy3.2.2.1 HBX.out.bel.size hy3.2.1 HLT.out _,?_⟩;have h8:=hy3.2.2.2;simpa [upd,h9]using h8
  all_goals ((with_reducible refine Ad ?_ ?_);all_goals first|(simp only[Region.wanted];done)|simp[Region.wanted,yielded,execOp,Act.eval,Act.put,go_sem])
 .intro sp w2 hsp hg;obtain⟨hg1,_,hmk⟩:=hg;obtain⟨b4,e4,hb4,p4,n4,c4,hx4,hn4⟩:=hmk rfl;replace hn4:=hn4 rfl;have c4x:=hx4.cell;have hz:Af w2 (w.heap.size+1) (.slice none 0 0):=hg1.of (List.mem_cons_of_mem _ List.mem_cons_self);have fz:=hz.free;have kz:=hz.cell;have ks:=(hz.set (.slice p4 n4 c4)).cell;have HN:=Ab (Fit.of (hn4.store hz (.slice p4 n4 c4)) HIL.out);have HBf:Aa (Below w.heap.size w (w2.setCell ⟨w.heap.size+1,0,none⟩ (.slice p4 n4 c4))):=⟨(HBX.out.bel.trans hg1.keep.bel).setCell (show w.heap.size<=w.heap.size+1 by omega) _⟩
  clear hsp hg1 hmk hx4 hn4 hb4 hz;simp only[An,Nat.reduceAdd];rw[e4];clear e4;generalize sp 1=y1,sp 6=y6,sp 7=y7,sp 8=y8,sp 11=y11 at *
  go_simp
  go_wp2;exact bodyPost_ret (v:=.agg #[.slice p4 n4 c4]) (by simp[results,Tryz.results150,go_sem,ks]) rfl ⟨_,rfl,HN.out,HBf.out⟩
theorem Xb {w:World}{Q C S:Nat}{x y:Option Addr×Nat×Nat}{g0:Value}(hq:Us Q g0 w)(hs:Ak Q<=16)(hC:Gq w x C)(hS:Gq w y S)(lC:C<Q)(lS:S<Q)(lQ:Q<Ar 33) :
  Calls Tryz.prog 68 #[.agg #[.slice x.1 x.2.1 x.2.2,.slice y.1 y.2.1 y.2.2],g0] w (Mz (Az C (Ak Q)++Az S (Ak Q)) w):=by
 have hx:=Ey.made w (.slice x.1 x.2.1 x.2.2) (.slice y.1 y.2.1 y.2.2);have hb0:Below w.heap.size w (w.alloc (.cells #[.slice x.1 x.2.1 x.2.2,.slice y.1 y.2.1 y.2.2] 125)):=Bx;obtain⟨wa,hwa⟩:∃wa,w.alloc (.cells #[.slice x.1 x.2.1 x.2.2,.slice y.1 y.2.1 y.2.2] 125)=wa:=⟨_,rfl⟩
 rw[hwa]at hx hb0
 have hlq:=Dj Q;have HX:=Ab hx;have HB0:=Ab hb0;have HQ:=Ab (hq.below hb0);have HC:=Ab ((Fit.of (e:=33) hC (Nat.lt_trans lC lQ)).below hb0);have HS:=Ab ((Fit.of (e:=33) hS (Nat.lt_trans lS lQ)).below hb0);obtain⟨W,hW⟩:∃W,Ak Q=W:=⟨_,rfl⟩
 rw[hW]at hs hlq ⊢
 have HW:=Ab hW;have HCl:Aa (C<B8 W):=⟨by omega⟩
 have HSl:Aa (S<B8 W):=⟨by omega⟩
 clear hx hb0 hq hC hS lC lS lQ hlq hW;go_enter Tryz.func68,Tryz.ntmps68
 go_wp2_with fail
 refine(Fg HQ.out).mono ?_;rintro en w1 ⟨rfl,hb1⟩;rw[HW.out];have HX1:=Ab (HX.out.below hb1 HX.out.lt);have HC1:=Ab (HC.out.below hb1);have HS1:=Ab (HS.out.below hb1);have HB1:=Ab (Ae HB0.out hb1);obtain⟨c0,c1⟩:=HX1.out.cells;clear hb1 HX HC HS hwa
 go_wp2_with fail
 refine(Op HC1.out (by decide) (by omega) HCl.out).mono ?_;rintro en w2 ⟨gc,rfl,hk2,hg2,hb2⟩;have HKC:=Ab hk2;have HGC:Aa (w.heap.size<=gc):=⟨Dn HB1.out.size hg2⟩
 have HX2:=Ab (HX1.out.below hb2 HX1.out.lt);have HS2:=Ab (HS1.out.below hb2);have HB2:=Ab (Ae HB1.out hb2);clear c0 c1;obtain⟨c0,c1⟩:=HX2.out.cells;clear hb2 hk2 hg2 HX1 HC1 HS1
 go_wp2_with fail
 refine(Op HS2.out (by decide) (by omega) HSl.out).mono ?_;rintro en w3 ⟨gs,rfl,hk3,hg3,hb3⟩;have HO:=Ab (Own.ofBlk (HKC.out.below hb3 HKC.out.lt) HGC.out (Bq C W).symm (by omega));have HR:Aa (Bd w3 .u8 (some ⟨gs,0,none⟩) W W (Az S W)):=⟨(Gw hk3 (by omega)).row⟩
 have HB3:=Ab (Ae HB2.out hb3);have hmx:(Az C W).length+W<=140737488355328:=by rw[Bq];omega
 have HMX:=Ab hmx;clear hb3 hk3 hg3 HX2 HS2 HKC c0 c1 hmx
 go_wp2_with (at_builtin;refine Cc rfl _ _ rfl rfl HO.out rfl HR.out (fun h=>by cases h) HMX.out HB3.out.size ?_;intro v1 w4 ho1 hg1;refine De.out ?_)
 refine⟨?_⟩;have HOW:=Ab (Bp.mk ho1);have HBf:Aa (Below w.heap.size w w4):=⟨HB3.out.trans (grown_below hg1 HB3.out.size HO.out.ge)⟩
 clear ho1 hg1 HO HR;go_wp2;go_ret;exact⟨v1,rfl,HOW.out,HBf.out⟩
theorem nZ {w:World}{Q e N:Nat}{r0 v:Value}(h:RQ Q r0 w)(hQ:2<=Q)(hv:Fit e N v w)(he:e<=800000) :
  Calls Tryz.prog 31 #[r0,v] w fun en w'=>∃x,en=.returned x/\Fit 33 (N%Q) x w'/\Below w.heap.size w w':=by
 rcases h with ⟨r,rfl,h2⟩|⟨_,rfl⟩
 .exact Eb h2 hv he
 .omega
theorem lR {w:World}{b P Q G H e X:Nat}{v:Value}{pm:Option Addr}{nm cm:Nat}{msg:List Nat}(hg:Bc w b P Q G H)(hT:Tabs w)(hv:Fit e X v w)(he:e<=30000)(hX:X<Q)(hs:Ak Q<=16)(hm:Ax w ⟨pm,nm,cm,msg⟩) :
  Calls Tryz.prog 65 #[.pointer (some ⟨b,0,none⟩),v,.slice pm nm cm] w fun en w'=>∃x,en=.returned x/\Fit 33 (Sw Q X msg) x w'/\Below w.heap.size w w':=by
 obtain⟨pa,na,ca,rfl,h1,h2⟩:=Aw hv;have hbx:=eU.mk2 w (.slice pa na ca) (.slice none 0 0);obtain⟨wa,hwa⟩:∃wa,(w.alloc (.cells #[.slice pa na ca] 37)).alloc (.cells #[.slice none 0 0] 37)=wa:=⟨_,rfl⟩
 rw[hwa]at hbx
 have HBL:=Ab hbx.bel;have HX0:=Ab hbx.b0;have HZ0:=Ab hbx.b1;have HA:=Ab ((Fit.of h1 h2).below hbx.bel);have HG:=Ab (hg.below hbx.bel);have HGA:=Ab hg;have HT:=Ab hT;have HM:=Ab hm;have HQ2:=Ab hg.lims.2.2.1;have hQl:=hg.lims.2.2.2;have hlq:=Dj Q;obtain⟨D,hD⟩:∃D,eP Q X msg=D:=⟨_,rfl⟩
 obtain⟨Z,hZ⟩:∃Z,D%Q=Z:=⟨_,rfl⟩
 have HZ:=Ab hZ;have HZl:Aa (Z<Ar 33):=⟨by rw[<-hZ];exact Nat.lt_trans (Nat.mod_lt _ (by have:=HQ2.out;omega)) hQl⟩
 have HK:Aa (Sw Q X msg=if Z=0 then 1 else Z):=⟨by unfold Sw;rw[hD,hZ]⟩
 obtain⟨KK,hKK⟩:∃K,Sw Q X msg=K:=⟨_,rfl⟩
 rw[hKK]at HK ⊢
 obtain⟨W,hW⟩:∃W,Ak Q=W:=⟨_,rfl⟩
 have HD0:Aa (be ((Ex (Az X W) msg ((64+31)/32)).take 64)=D):=⟨by rw[<-hD,<-hW];rfl⟩
 rw[hW]at hs hlq
 have HW:=Ab hW;have HXl:Aa (X<B8 W):=⟨by omega⟩
 have h8:Aa (Au ((Ex (Az X W) msg ((64+31)/32)).take 64)):=⟨fun y hy=>Lj _ _ _ y (List.mem_of_mem_take hy)⟩
 obtain⟨EE,hEE⟩:∃E,(Ex (Az X W) msg ((64+31)/32)).take 64=E:=⟨_,rfl⟩
 have HEE:=Ab hEE;rw[hEE]at HD0 h8
 have HDl:Aa (D<Ar 32):=⟨by
  have hx:=h8.out.reverse.lt;have hl:EE.length<=64:=by rw[<-hEE];exact List.length_take_le _ _
  rw[List.length_reverse]at hx
  have h3:D<B8 EE.length:=by rw[<-HD0.out];exact hx
  exact Ej h3 (Dn (Hw hl) (by decide))⟩
 clear h1 h2 hbx hg hv hT hm hD hZ hKK hW hlq hX hQl hEE;go_enter Tryz.func65,Tryz.ntmps65;go_wp2;refine Ah (by kernel_rfl) (by kernel_rfl)
  [some (.agg #[.slice pa na ca]),some (.pointer (some ⟨b,0,none⟩)),none,none,none,none,some (.int .i64 0),none,some (.int .i64 0)]
  [false,false,true,true,true,true,false,true,false] rfl
  (fun w1 w2=>Below w1.heap.size w1 w2)
  (fun _ w'=>Below wa.heap.size wa w')
  (fun i v w'=>match i with
   | 2=>v=.int .i64 (W:Nat)
   | 3=>Ov (W) (Az X W) v w'
   | 4=>Ov (W) (Az X W) v w'
   | 5=>Gy (W) (Az X W) v w'
   | 7=>Gy (W) (Az X W) v w'
   | _=>True)
  ?_ (Bb _ _).drew ?_ ?_
 .intro i v w1 w2 hf hb;split at hf
  .exact hf
  .exact hf.below hb
  .exact hf.below hb
  .exact hf.below hb
  .exact hf.below hb
  .trivial
 .simp only[Ba,Nat.reduceAdd];refine⟨?_,?_,?_,?_,?_,?_,?_,?_,?_,trivial⟩
  all_goals intro D sp w' hD hW hdp hbx'
  case refine_1=>
   have c0:=(HX0.out.below hbx' HX0.out.lt).cell
   with_reducible refine Ad ?_ ?_
   all_goals simp[Region.wanted,yielded,execOp,Act.eval,Act.put,go_sem,c0]
  case refine_3=>
   (with_reducible refine Ac (w1:=w') (f := 130) (args:=#[.pointer (some ⟨b,0,none⟩)]) ?_ ?_ ?_)
   .simp[Region.wanted,yielded,Act.put,go_sem]
   .simp[Act.eval,Act.put,go_sem]
   .refine(Fg (Us.of (HG.out.below hbx'))).mono ?_;rintro en w9 ⟨rfl,hb⟩;rw[HW.out];exact⟨_,rfl,hb,rfl,Ae hbx' hb⟩
  case refine_4=>
   have k2:(sp 2)=.int .i64 (W:Nat):=(hdp 2 (mq (by kernel_rfl))).2
   (with_reducible refine Ac (w1:=w') (f := 122) (args:=#[.agg #[.slice pa na ca],.int .i64 (W:Nat)]) ?_ ?_ ?_)
   .first|(simp only[Region.wanted];done)|simp[Region.wanted,yielded,Act.put,go_sem,k2]
   .simp[Act.eval,Act.put,go_sem,k2]
   .refine(iJ (HA.out.below hbx') he (by omega) HXl.out).mono ?_;rintro en w9 ⟨u,rfl,hu,hb⟩;exact⟨u,rfl,hb,hu,Ae hbx' hb⟩
  case refine_5=>
   have k3:Ov (W) (Az X W) (sp 3) w':=(hdp 3 (mq (by kernel_rfl))).2
   (with_reducible refine Ai (w1:=w') (v:=sp 3) ?_ ?_ ?_)
   .simp[Region.wanted,yielded,Act.put,go_sem]
   .simp[execOp,Act.eval,Act.put,go_sem]
   .exact⟨Bb _ _,k3,hbx'⟩
  case refine_6=>
   have hx:∃g,sp 4=.tuple #[.slice (some ⟨g,0,none⟩) (W) (W),.int .i64 0]/\Bm w' g 5 .u8 (Az X W):=(hdp 4 (mq (by kernel_rfl))).2
   (with_reducible refine Ay hx fun g hx1=>?_)
   have h1:=hx1.1
   (with_reducible refine Ai (w1:=w') (v:=.slice (some ⟨g,0,none⟩) (W) (W)) ?_ ?_ ?_)
   .simp only[Region.wanted]
   .simp[execOp,Act.eval,Act.put,go_sem,h1]
   .exact⟨Bb _ _,⟨g,rfl,hx1.2⟩,hbx'⟩
  case refine_7=>
   have hx:∃g,sp 4=.tuple #[.slice (some ⟨g,0,none⟩) (W) (W),.int .i64 0]/\Bm w' g 5 .u8 (Az X W):=(hdp 4 (mq (by kernel_rfl))).2
   (with_reducible refine Ay hx fun g hx1=>?_)
   have h1:=hx1.1
   with_reducible refine Ad ?_ ?_
   all_goals simp[Region.wanted,yielded,execOp,Act.eval,Act.put,go_sem,h1]
  case refine_8=>
   have k5:Gy (W) (Az X W) (sp 5) w':=(hdp 5 (mq (by kernel_rfl))).2
   (with_reducible refine Ai (w1:=w') (v:=sp 5) ?_ ?_ ?_)
   .simp[Region.wanted,yielded,Act.put,go_sem]
   .simp[execOp,Act.eval,Act.put,go_sem]
   .exact⟨Bb _ _,k5,hbx'⟩
  all_goals ((with_reducible refine Ad ?_ ?_);all_goals first|(simp only[Region.wanted];done)|simp[Region.wanted,yielded,execOp,Act.eval,Act.put,go_sem])
 .intro sp w1 hsp hb1;obtain⟨ga,e7,hk7⟩:Gy W (Az X W) (sp 7) w1:=hsp 7 rfl;have HP:=Ab (Gw hk7 (show W<=1000 by omega));have HZ1:=Ab (HZ0.out.below hb1 HZ0.out.lt);have HB1:=Ab (Ae HBL.out hb1);clear hsp hb1 hk7;simp only[An,Nat.reduceAdd];rw[e7];clear e7 hwa;generalize sp 2=y2,sp 3=y3,sp 4=y4,sp 5=y5 at *
  go_simp
  go_wp2_with fail
  refine(Pm w1 (some ⟨ga,0,none⟩) W W (Az X W) pm nm cm msg 64 (HT.out.below HB1.out HT.out.size) HP.out.row HP.out.bytes (HM.out.below HB1.out) (by decide)).mono ?_;rintro en w2 ⟨p2,rfl,hr2,_,hb2,_⟩;rw[HEE.out]at hr2
  have HR2:=Ab hr2;have HZ2:=Ab (HZ1.out.below hb2 HZ1.out.lt);have HB2:=Ab (Ae HB1.out hb2);clear hr2 hb2
  go_wp2_with fail
  refine(Cr w2 p2 64 64 EE HR2.out h8.out (by decide)).mono ?_;rintro en w3 ⟨p4,n4,c4,rfl,hq3,hb3,_⟩;rw[HD0.out]at hq3
  have hb4:Below w3.heap.size w3 (w3.alloc (.cells #[.slice p4 n4 c4] 37)):=Bx;have hX4:=Af.made w3 (.slice p4 n4 c4);obtain⟨w4,hw4⟩:∃w4,w3.alloc (.cells #[.slice p4 n4 c4] 37)=w4:=⟨_,rfl⟩
  rw[hw4]at hb4 hX4
  have hb24:=Ae hb3 hb4;have HD:Aa (Fit 32 D (.agg #[.slice p4 n4 c4]) w4):=⟨Fit.of (hq3.below hb4) HDl.out⟩
  have HX4:=Ab hX4;have HZ4:=Ab (HZ2.out.below hb24 HZ2.out.lt);have HB4:=Ab (Ae HB2.out hb24);have HG4:=Ab (HGA.out.below HB4.out);clear hq3 hb3 hb4 hX4 hb24;go_wp2;refine Am (by kernel_rfl) (by kernel_rfl)
   [some (.pointer (some ⟨b,0,none⟩)),none,some (.agg #[.slice p4 n4 c4]),none,none,none]
   [false,true,false,true,true,true] rfl
   (fun wA wB=>KN (w4.heap.size) wA wB)
   (fun D sp w'=>RG (w4.heap.size) w4 [] w'/\Qt (D 4) (D 5) (sp 4) (w4.heap.size) (Z) w')
   (fun i v w'=>match i with
    | 1=>RQ Q v w'
    | 3=>Fit 33 (Z) v w'
    | _=>True)
   ?_ ⟨RG.start (As _) (fun x hx=>by cases hx),Qt.start (As _)⟩ ?_ ?_
  .intro i v wA wB hf hb;split at hf
   .exact hf.kn hb
   .exact hf.kn hb
   .trivial
  .simp only[Bf,Nat.reduceAdd];refine⟨?_,?_,?_,?_,?_,?_,trivial⟩
   all_goals intro D sp w' hD hW hdp hg
   case refine_2=>
    (with_reducible refine Ac (w1:=w') (f := 30) (args:=#[.pointer (some ⟨b,0,none⟩)]) ?_ ?_ ?_)
    .simp[Region.wanted,yielded,Act.put,go_sem]
    .simp[Act.eval,Act.put,go_sem]
    .refine(Oe (Us.of (HG4.out.below hg.1.keep.bel))).mono ?_;rintro en w9 ⟨u,rfl,hu,hb⟩;exact⟨u,rfl,KN.of hb hg.1.base,hu,hg.1.later hb,by simpa [upd]using hg.2.later hb⟩
   case refine_3=>
    have c0:=(HX4.out.below hg.1.keep.bel HX4.out.lt).cell
    with_reducible refine Ad ?_ ?_
    all_goals simp[Region.wanted,yielded,execOp,Act.eval,Act.put,go_sem,c0]
   case refine_4=>
    have k1:RQ Q (sp 1) w':=(hdp 1 (mq (by kernel_rfl))).2
    (with_reducible refine Ac (w1:=w') (f := 31) (args:=#[sp 1,.agg #[.slice p4 n4 c4]]) ?_ ?_ ?_)
    .simp[Region.wanted,yielded,Act.put,go_sem]
    .simp[Act.eval,Act.put,go_sem]
    .refine(nZ k1 HQ2.out (HD.out.below hg.1.keep.bel) (by decide)).mono ?_;rintro en w9 ⟨u,rfl,hu,hb⟩;rw[HZ.out]at hu
     exact⟨u,rfl,KN.of hb hg.1.base,hu,hg.1.later hb,by simpa [upd]using hg.2.later hb⟩
   case refine_5=>
    have h9:D 5=false:=hW 5 (mq (by kernel_rfl));rw[hD,h9]at hg
    (with_reducible refine Ai (w1:=w'.alloc (.cells #[.slice none 0 0] 37)) (v:=.pointer (some ⟨w'.heap.size,0,none⟩)) ?_ ?_ ?_)
    .simp[Region.wanted,yielded,Act.put,go_sem]
    .simp[execOp,go_sem]
    .have hb:Below w'.heap.size w' (w'.alloc (.cells #[.slice none 0 0] 37)):=Bx;refine⟨KN.of hb hg.1.base,trivial,hg.1.later hb,?_⟩;have h8:=hg.2.made;simpa [upd,h9]using h8
   case refine_6=>
    have hx:∃p n c,sp 3=.agg #[.slice p n c]/\Aj w' p n c (Z)/\Z<Ar (33):=(hdp 3 (mq (by kernel_rfl))).2
    (with_reducible refine Ay hx fun p hx1=>Ay hx1 fun n hx2=>Ay hx2 fun c hx3=>?_)
    have h1:=hx3.1;have h9:D 4=true:=(hdp 4 (mq (by kernel_rfl))).1;rw[h9]at hg
    have hp:=hg.2.put (hx3.2.1)
    (with_reducible refine Ay hp fun b hy0=>Ay hy0 fun q hy1=>Ay hy1 fun m hy2=>Ay hy2 fun k hy3=>?_)
    have h3:=hy3.1;have h6:=hy3.2.2.1.cell;have h7:=hy3.2.2.1.free
    (with_reducible refine Aq (w1:=w'.setCell ⟨b,0,none⟩ (.slice p n c)) ?_ ?_ ?_)
    .simp[Region.wanted,yielded,Act.put,go_sem]
    .simp[execOp,Act.eval,Act.put,go_sem,h1,h3,h6,h7]
    .refine⟨KN.store hy3.2.2.1 (Dn (As _) hy3.2.1) _,trivial,hg.1.store_over hy3.2.2.1 (As _) hy3.2.1 (fun x hx=>by cases hx) _,?_⟩;have h8:=hy3.2.2.2;simpa [upd,h9]using h8
   all_goals ((with_reducible refine Ad ?_ ?_);all_goals first|(simp only[Region.wanted];done)|simp[Region.wanted,yielded,execOp,Act.eval,Act.put,go_sem])
  .intro sp w5 hsp hg;obtain⟨hg1,_,hmk⟩:=hg;obtain⟨b13,e13,hb13,p5,n5,c5,hx5,hn5⟩:=hmk rfl;replace hn5:=hn5 rfl;have c5x:=hx5.cell;have HX5:=Ab hx5;have HN5:=Ab (Fit.of hn5 HZl.out);have HZ5:=Ab (HZ4.out.below hg1.keep.bel HZ4.out.lt);have HB5:=Ab (Ae HB4.out hg1.keep.bel);clear hsp hg1 hmk hx5 hn5 hb13 hw4;simp only[An,Nat.reduceAdd];rw[e13];clear e13;generalize sp 1=y1,sp 3=y3,sp 5=y5 at *
   go_simp
   by_cases hz0:Z=0
   .have HKZ:Aa (KK=1):=⟨by rw[HK.out,if_pos hz0]⟩
    have HZT:=Ab (decide_eq_true hz0);clear hz0
    go_wp2_with fail
    refine(Dw HN5.out HZT.out).mono ?_;rintro en w6 ⟨_,rfl,rfl,hb6⟩;have HZ6:=Ab (HZ5.out.below hb6 HZ5.out.lt);have HB6:=Ab (Ae HB5.out hb6);clear hb6
    go_wp2_with fail
    refine(Fq w6).mono ?_;rintro en w7 ⟨_,rfl,⟨p7,n7,c7,rfl,h7,l7⟩,hb7⟩;have hz:=HZ6.out.below hb7 HZ6.out.lt;have fz:=hz.free;have kz:=hz.cell;have ks:=(hz.set (.slice p7 n7 c7)).cell;have HN:Aa (Fit 33 KK (.agg #[.slice p7 n7 c7]) (w7.setCell ⟨w.heap.size+1,0,none⟩ (.slice p7 n7 c7))):=⟨(Fit.of (h7.store hz _) (by decide)).cast HKZ.out.symm⟩
    have HBf:Aa (Below w.heap.size w (w7.setCell ⟨w.heap.size+1,0,none⟩ (.slice p7 n7 c7))):=⟨(Ae HB6.out hb7).setCell (show w.heap.size<=w.heap.size+1 by omega) _⟩
    clear h7 l7 hb7 hz;go_wp2;exact bodyPost_ret (v:=.agg #[.slice p7 n7 c7]) (by simp[results,Tryz.results65,go_sem,ks]) rfl ⟨_,rfl,HN.out,HBf.out⟩
   .have HKZ:Aa (KK=Z):=⟨by rw[HK.out,if_neg hz0]⟩
    have HZT:=Ab (decide_eq_false hz0);clear hz0
    go_wp2_with fail
    refine(Dw HN5.out HZT.out).mono ?_;rintro en w6 ⟨_,rfl,rfl,hb6⟩;have hz:=HZ5.out.below hb6 HZ5.out.lt;have c6:=(HX5.out.below hb6 HX5.out.lt).cell;have fz:=hz.free;have kz:=hz.cell;have ks:=(hz.set (.slice p5 n5 c5)).cell;have HN:Aa (Fit 33 KK (.agg #[.slice p5 n5 c5]) (w6.setCell ⟨w.heap.size+1,0,none⟩ (.slice p5 n5 c5))):=⟨(Fit.of ((Hs (HN5.out.below hb6)).store hz _) HZl.out).cast HKZ.out.symm⟩
    have HBf:Aa (Below w.heap.size w (w6.setCell ⟨w.heap.size+1,0,none⟩ (.slice p5 n5 c5))):=⟨(Ae HB5.out hb6).setCell (show w.heap.size<=w.heap.size+1 by omega) _⟩
    clear hb6 hz c5x;go_wp2;exact bodyPost_ret (v:=.agg #[.slice p5 n5 c5]) (by simp[results,Tryz.results65,go_sem,ks]) rfl ⟨_,rfl,HN.out,HBf.out⟩
end Go.Proofs.YtokhckjemidbpaaGreatDoor
