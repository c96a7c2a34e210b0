/- The statements of stage 14: the chapter's example, and the dealing that they make. -/
import Derived.Test.YtokhckjemidbpaaGreatDoorDeB
import Derived.Lib.AppendZeros
import Derived.Lib.Walk
import Derived.BigRegion
import Derived.Laws.Rows
import Derived.Laws.OwnMore
set_option maxRecDepth 1000000
set_option maxHeartbeats 16000000
set_option linter.all false
namespace Go.Proofs.YtokhckjemidbpaaGreatDoor
open Go Go.RowKit Go.Proofs.YtokhckjemidbpaaGreatDoor.Flow
theorem Qf (w:World)(hr:Tabs w) :
  Calls Tryz.prog 37 #[] w fun e w'=>e=.returned (.bool true)/\Below w.heap.size w w':=by
 have HGR:=Ac (Kl w 0 hr);clear hr;go_enter Tryz.func37,Tryz.ntmps37
 go_wp2_with fail
 refine HGR.out.mono ?_;rintro en w1 ⟨b,rfl,hg,b1⟩;have hi:((IntKind.u64.wrap 0)%3).toNat=0:=by decide
 rw[hi]at hg
 have HNA:Aa (Mn (gQ 0) 4 (Kh (gQ 0) 3 (([2,7]:List Nat).take 1))=11):=⟨by decide⟩
 have HNB:Aa (Mn (gQ 0) 4 (Kh (gQ 0) 5 ((([2,7]:List Nat).drop 1).take 1))=33):=⟨by decide⟩
 obtain⟨P,hP⟩:∃q,gP 0=q:=⟨_,rfl⟩
 obtain⟨Q,hq⟩:∃q,gQ 0=q:=⟨_,rfl⟩
 obtain⟨GG,hgg⟩:∃q,gG 0=q:=⟨_,rfl⟩
 obtain⟨HH,hhh⟩:∃q,gH 0=q:=⟨_,rfl⟩
 rw[hP,hq,hgg,hhh]at hg
 rw[hq]at HNA HNB
 have HG:=Ac hg;have HB1:=Ac b1;clear hg b1 hi hP hq hgg hhh HGR
 go_wp2_with fail
 refine(Cm (n:=3) w1 (by decide)).mono ?_;rintro en w2 ⟨_,rfl,⟨ps,ns,cs,rfl,s1,s2⟩,b2⟩;have HFS:=Ac (Fit.of s1 s2);have HB2:=Ac (Ab HB1.out b2);have HG2:=Ac (HG.out.below b2);clear s1 s2 b2 HG HB1
 go_wp2_with fail
 refine(Cm (n:=5) w2 (by decide)).mono ?_;rintro en w3 ⟨_,rfl,⟨pr,nr,cr,rfl,r1,r2⟩,b3⟩;obtain⟨W1,hW1⟩:∃W,w3.alloc (.cells #[.int .u64 2,.int .u64 7] 22)=W:=⟨_,rfl⟩
 have hbw:Below w3.heap.size w3 W1:=by rw[<-hW1];exact(Bd _ _).alloc (Av _) _
 have hnew:W1.heap[w3.heap.size]? = some (.cells #[.int .u64 2,.int .u64 7] 22 (0,0)):=by rw[<-hW1];exact heap_alloc_new w3 _
 have hrow:Bb W1 .u64 (some ⟨w3.heap.size,0,none⟩) 2 2 [2,7]:=⟨rfl,Av _,by decide,fun _=>⟨rfl,Av _,by decide,.inr ⟨w3.heap.size,0,rfl,(Ik hnew).1,fun i x hx=>by
  match i,hx with
  | 0,hx=>simp at hx;subst hx;simp[World.cell?,hnew]
  | 1,hx=>simp at hx;subst hx;simp[World.cell?,hnew]
  | i+2,hx=>simp at hx⟩⟩⟩
 have hb34:=Ab b3 hbw;have HN:=Ac (Wv W1 _ 2 2 [2,7] hrow (fun x hx=>by simp at hx;unfold fQ;omega) (by decide));have HFR:=Ac ((Fit.of r1 r2).below hbw);have HFS3:=Ac (HFS.out.below hb34);have HG3:=Ac (HG2.out.below hb34);have HB3:=Ac (Ab HB2.out hb34);clear r1 r2 b3 hbw hnew hrow hb34 HFS HG2 HB2
 go_wp2_with fail
 refine HN.out.mono ?_;rintro en w4 ⟨pd,cd,rfl,hp,b4⟩;have HD:=Ac (gC (T:=2) (M:=1) (HG3.out.below b4) (HFS3.out.below b4) (HFR.out.below b4) hp (by decide) (by decide) (by decide) (by decide) rfl (by decide) (by decide));have HG4:=Ac (HG3.out.below b4);have HB4:=Ac (Ab HB3.out b4);clear hp b4 HN HFR HFS3 HG3 HB3 hW1
 go_wp2_with fail
 refine HD.out.mono ?_;rintro en w5 ⟨p1,c1,p2,c2,rfl,h1,h2,-,b5⟩;have hb6:Below w5.heap.size w5 (w5.alloc (.cells #[.slice p1 2 c1,.slice p2 2 c2] 64)):=By;have hx6:=Bo.made 64 w5 (.slice p1 2 c1) (.slice p2 2 c2);obtain⟨bd,hbd⟩:∃x,w5.heap.size=x:=⟨_,rfl⟩
 obtain⟨w6,hw6⟩:∃z,w5.alloc (.cells #[.slice p1 2 c1,.slice p2 2 c2] 64)=z:=⟨_,rfl⟩
 rw[hw6]at hb6 hx6
 rw[hbd]at hx6
 have hb56:=Ab b5 hb6;have HS:=Ac (bO (n:=2) (m:=2) (j:=4) (HG4.out.below hb56) (h1.below hb6) (h2.below hb6) (by decide) (by decide) (by decide) (by decide) (by decide) HNA.out HNB.out);have HG6:=Ac (HG4.out.below hb56);have HB6:=Ac (Ab HB4.out hb56);have d0:=hx6.cells.1;have d1:=hx6.cells.2;clear h1 h2 b5 hb6 hx6 hb56 HD HG4 HB4
 go_wp2_with fail
 refine HS.out.mono ?_;rintro en w7 ⟨x,y,rfl,h1,h2,b7⟩;have hb8:Below w7.heap.size w7 (w7.alloc (.cells #[.slice x.1 x.2.1 x.2.2,.slice y.1 y.2.1 y.2.2] 75)):=By;have hx8:=Bo.made 75 w7 (.slice x.1 x.2.1 x.2.2) (.slice y.1 y.2.1 y.2.2);obtain⟨bs,hbs⟩:∃z,w7.heap.size=z:=⟨_,rfl⟩
 obtain⟨w8,hw8⟩:∃z,w7.alloc (.cells #[.slice x.1 x.2.1 x.2.2,.slice y.1 y.2.1 y.2.2] 75)=z:=⟨_,rfl⟩
 rw[hw8]at hb8 hx8
 rw[hbs]at hx8
 have HSB:=Ac hx8;have HX:=Ac ((Fit.of (e:=1) h1 (by decide)).below hb8);have HY:=Ac ((Fit.of (e:=1) h2 (by decide)).below hb8);have HB8:=Ac (Ab HB6.out (Ab b7 hb8));clear h1 h2 b7 hb8 hx8 d0 d1 HS HG6 HB6 hw6 hbd;go_wp2;refine Aj (by kernel_rfl) (by kernel_rfl)
  [some (.pointer (some ⟨b,0,none⟩)),some (.bool true),some (.bool true),some (.int .i64 0),some (.bool true),some (.bool true),some (.bool true),some (.int .i64 0),some (.bool true),some (.bool true),some (.bool true),some (.pointer (some ⟨bs,0,none⟩)),some (.agg #[.slice x.1 x.2.1 x.2.2]),none,none,some (.bool true),some (.bool true),some (.bool true),some (.pointer (some ⟨bs,1,none⟩)),some (.agg #[.slice y.1 y.2.1 y.2.2]),none,none,some (.bool true),some (.bool true),some (.bool true)]
  [false,false,false,false,false,false,false,false,false,false,false,false,false,true,true,false,false,false,false,false,true,true,false,false,false] rfl
  (fun w1 w2=>Below w1.heap.size w1 w2)
  (fun _ w'=>Below w8.heap.size w8 w')
  (fun i v w'=>match i with
   | 13=>Fit 2 11 v w'
   | 14=>v=.int .i64 0
   | 20=>Fit 2 33 v w'
   | 21=>v=.int .i64 0
   | _=>True)
  ?_ (Bd _ _).drew ?_ ?_
 .intro i v w1 w2 hf hb;split at hf
  .exact hf.below hb
  .exact hf
  .exact hf.below hb
  .exact hf
  .trivial
 .simp only[Bh,Nat.reduceAdd];refine⟨?_,?_,?_,?_,?_,?_,?_,?_,?_,?_,?_,?_,?_,?_,?_,?_,?_,?_,?_,?_,?_,?_,?_,?_,?_,trivial⟩
  all_goals intro D sp w' hD hW hdp hbx'
  case refine_13=>
   have c0:=(HSB.out.below hbx' HSB.out.lt).cells.1
   with_reducible refine Ag ?_ ?_
   all_goals simp[Region.wanted,yielded,execOp,Act.eval,Act.put,go_sem,c0]
  case refine_14=>
   (with_reducible refine Ad (w1:=w') (f := 17) (args:=#[.int .u64 11]) ?_ ?_ ?_)
   .simp[Region.wanted,yielded,Act.put,go_sem]
   .simp[Act.eval,Act.put,go_sem]
   .refine(Cm (n:=11) _ (by decide)).mono ?_;rintro en w9 ⟨u,rfl,hu,hb⟩;exact⟨u,rfl,hb,hu,Ab hbx' hb⟩
  case refine_15=>
   have k13:Fit 2 11 (sp 13) w':=(hdp 13 (mq (by kernel_rfl))).2
   (with_reducible refine Ad (w1:=w') (f := 24) (args:=#[.agg #[.slice x.1 x.2.1 x.2.2],sp 13]) ?_ ?_ ?_)
   .simp[Region.wanted,yielded,Act.put,go_sem]
   .simp[Act.eval,Act.put,go_sem]
   .refine(Az (HX.out.below hbx') k13 (by decide) (by decide) (Cg.2 rfl)).mono ?_;rintro en w9 ⟨_,rfl,rfl,hb⟩;exact⟨_,rfl,hb,rfl,Ab hbx' hb⟩
  case refine_16=>
   have k14:(sp 14)=.int .i64 0:=(hdp 14 (mq (by kernel_rfl))).2
   with_reducible refine Ag ?_ ?_
   all_goals simp[Region.wanted,yielded,execOp,Act.eval,Act.put,go_sem,k14]
  case refine_20=>
   have c1:=(HSB.out.below hbx' HSB.out.lt).cells.2
   with_reducible refine Ag ?_ ?_
   all_goals simp[Region.wanted,yielded,execOp,Act.eval,Act.put,go_sem,c1]
  case refine_21=>
   (with_reducible refine Ad (w1:=w') (f := 17) (args:=#[.int .u64 33]) ?_ ?_ ?_)
   .simp[Region.wanted,yielded,Act.put,go_sem]
   .simp[Act.eval,Act.put,go_sem]
   .refine(Cm (n:=33) _ (by decide)).mono ?_;rintro en w9 ⟨u,rfl,hu,hb⟩;exact⟨u,rfl,hb,hu,Ab hbx' hb⟩
  case refine_22=>
   have k20:Fit 2 33 (sp 20) w':=(hdp 20 (mq (by kernel_rfl))).2
   (with_reducible refine Ad (w1:=w') (f := 24) (args:=#[.agg #[.slice y.1 y.2.1 y.2.2],sp 20]) ?_ ?_ ?_)
   .simp[Region.wanted,yielded,Act.put,go_sem]
   .simp[Act.eval,Act.put,go_sem]
   .refine(Az (HY.out.below hbx') k20 (by decide) (by decide) (Cg.2 rfl)).mono ?_;rintro en w9 ⟨_,rfl,rfl,hb⟩;exact⟨_,rfl,hb,rfl,Ab hbx' hb⟩
  case refine_23=>
   have k21:(sp 21)=.int .i64 0:=(hdp 21 (mq (by kernel_rfl))).2
   with_reducible refine Ag ?_ ?_
   all_goals simp[Region.wanted,yielded,execOp,Act.eval,Act.put,go_sem,k21]
  all_goals ((with_reducible refine Ag ?_ ?_);all_goals first|(simp only[Region.wanted];done)|simp[Region.wanted,yielded,execOp,Act.eval,Act.put,go_sem])
 .intro sp w9 hsp hbx';have HB9:=Ac (Ab HB8.out hbx');clear hsp hbx';simp only[Ak,Nat.reduceAdd];generalize sp 13=y13,sp 14=y14,sp 20=y20,sp 21=y21 at *
  go_simp
  go_wp2;go_ret;exact⟨rfl,HB9.out⟩
end Go.Proofs.YtokhckjemidbpaaGreatDoor
