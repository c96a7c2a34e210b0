/- Rows of the call's own all of whose cells are slices: they grow, and no number is harmed. -/
import Derived.Test.YtokhckjemidbpaaGreatDoorCuK
set_option maxRecDepth 1000000
set_option maxHeartbeats 16000000
set_option linter.all false
namespace Go.Proofs.YtokhckjemidbpaaGreatDoor
open Go Go.RowKit Go.Proofs.YtokhckjemidbpaaGreatDoor.Flow
theorem Fit.wide {e f N:Nat}{v:Value}{w:World}(h:Fit e N v w)(hf:e<=f):Fit f N v w:=h.tight (Da h.lim (Cn hf))
theorem Ring.wide {w:World}{r M e f:Nat}(h:Ring w r M e)(hf:e<=f)(h2:f<=10000):Ring w r M f:=⟨h.at_,h.two,Da h.lim (Cn hf),h2⟩
theorem Bi {n:Nat}(w:World)(hn:n<18446744073709551616):Calls Tryz.prog 17 #[.int .u64 (n:Nat)] w fun en w'=>∃x,en=.returned x/\Fit 2 n x w'/\Below w.heap.size w w':=by
 refine(Cc n w hn).mono ?_;rintro en w' ⟨p,m,c,rfl,h,hb,_⟩;exact⟨_,rfl,Fit.of h (by unfold An;omega),hb⟩
theorem Uq {w:World}{e P Q:Nat}{x y z:Option Addr×Nat×Nat}{ps:Option Addr}{ns cs:Nat}(hP:Cr w x P)(lP:P<An e)(hQ:Cr w y Q)(lQ:Q<An e)(h1:1<=P)(h2:1<=Q)(he:e<=32) :
  Calls Tryz.prog 182 #[.agg #[.slice x.1 x.2.1 x.2.2,.slice y.1 y.2.1 y.2.2,.slice z.1 z.2.1 z.2.2,.slice ps ns cs]] w fun en w'=>∃u,en=.returned (.tuple #[u,.bool (decide ((P-1)%Q=0))])/\Fit e ((P-1)/Q) u w'/\Below w.heap.size w w':=by
 have hX0:=Do.made 118 w (.slice x.1 x.2.1 x.2.2) (.slice y.1 y.2.1 y.2.2) (.slice z.1 z.2.1 z.2.2) (.slice ps ns cs);have hb0:Below w.heap.size w (w.alloc (.cells #[.slice x.1 x.2.1 x.2.2,.slice y.1 y.2.1 y.2.2,.slice z.1 z.2.1 z.2.2,.slice ps ns cs] 118)):=Bq;have hsz:(w.alloc (.cells #[.slice x.1 x.2.1 x.2.2,.slice y.1 y.2.1 y.2.2,.slice z.1 z.2.1 z.2.2,.slice ps ns cs] 118)).heap.size=w.heap.size+1:=by simp
 obtain⟨wz,hwz⟩:∃wz,w.alloc (.cells #[.slice x.1 x.2.1 x.2.2,.slice y.1 y.2.1 y.2.2,.slice z.1 z.2.1 z.2.2,.slice ps ns cs] 118)=wz:=⟨_,rfl⟩
 rw[hwz]at hX0 hb0 hsz
 have hR0:=Af.made wz (.slice none 0 0);have hba:Below wz.heap.size wz (wz.alloc (.cells #[.slice none 0 0] 37)):=Bq;obtain⟨wa,hwa⟩:∃wa,wz.alloc (.cells #[.slice none 0 0] 37)=wa:=⟨_,rfl⟩
 rw[hwa]at hR0 hba
 have hX1:=hX0.below hba hX0.lt;rw[hsz]at hR0
 have hbel:=Ae hb0 hba;have HX:=Ab hX1;have HR:=Ab hR0;have HB:=Ab hbel;have HSZ:Aa (w.heap.size+1+1<=wa.heap.size):=⟨hR0.lt⟩
 have HP:Aa (Fit e P (.agg #[.slice x.1 x.2.1 x.2.2]) wa):=⟨(Fit.of hP lP).below hbel⟩
 have HQ:Aa (Fit e Q (.agg #[.slice y.1 y.2.1 y.2.2]) wa):=⟨(Fit.of hQ lQ).below hbel⟩
 have H1:=Ab h1;have H2:=Ab h2;have HLT:Aa (∀g∈([(w.heap.size,.cells #[.slice x.1 x.2.1 x.2.2,.slice y.1 y.2.1 y.2.2,.slice z.1 z.2.1 z.2.2,.slice ps ns cs] 118 (0,0)),(w.heap.size+1,.cells #[.slice none 0 0] 37 (0,0))]:List (Nat×Obj)),g.1<wa.heap.size):=⟨List.forall_mem_cons.2 ⟨by simp only;have:=HSZ.out;omega,List.forall_mem_cons.2 ⟨by simp only;have:=HSZ.out;omega,fun g hx=>by cases hx⟩⟩⟩
 obtain⟨ANS,hANS⟩:∃X,decide ((P-1)%Q=0)=X:=⟨_,rfl⟩
 have HANS:=Ab hANS;rw[hANS];clear hANS h1 h2 hX0 hX1 hR0 hb0 hba hbel hP hQ lP lQ;go_enter Tryz.func182,Tryz.ntmps182;go_wp2;refine Aj (by kernel_rfl) (by kernel_rfl)
  [some (.pointer (some ⟨w.heap.size,0,none⟩)),some (.agg #[.slice x.1 x.2.1 x.2.2]),none,none,none,none,some (.bool true),none,none,some (.bool true)]
  [false,false,true,true,true,true,false,true,true,false] rfl
  (fun w1 w2=>Am (w.heap.size) w1 w2)
  (fun D sp w'=>RG (w.heap.size) wa [(w.heap.size,.cells #[.slice x.1 x.2.1 x.2.2,.slice y.1 y.2.1 y.2.2,.slice z.1 z.2.1 z.2.2,.slice ps ns cs] 118 (0,0)),(w.heap.size+1,.cells #[.slice none 0 0] 37 (0,0))] w'/\bC (D 7) (D 8) (sp 7) (wa.heap.size) (P-1) w')
  (fun i v w'=>match i with
   | 2=>Fit 1 1 v w'
   | 3=>Gh e (P-1) (.bool true) v w'
   | 4=>Gh e (P-1) (.bool true) v w'
   | 5=>Fit (e) (P-1) v w'
   | _=>True)
  ?_ ⟨RG.start HB.out.size (List.forall_mem_cons.2 ⟨HX.out.at_,List.forall_mem_cons.2 ⟨HR.out,fun x hx=>by cases hx⟩⟩),bC.start (Av _)⟩ ?_ ?_
 .intro i v w1 w2 hf hb;split at hf
  .exact hf.keep hb
  .exact hf.keep hb
  .exact hf.keep hb
  .exact hf.keep hb
  .trivial
 .simp only[Az,Nat.reduceAdd];refine⟨?_,?_,?_,?_,?_,?_,?_,?_,?_,?_,trivial⟩
  all_goals intro D sp w' hD hW hdp hg
  case refine_2=>
   have c0:=(Do.cells ⟨hg.1.of List.mem_cons_self⟩).1
   with_reducible refine Ad ?_ ?_
   all_goals simp[Region.wanted,yielded,execOp,Act.eval,Act.put,go_sem,c0]
  case refine_3=>
   (with_reducible refine Ac (w1:=w') (f := 17) (args:=#[.int .u64 1]) ?_ ?_ ?_)
   .simp[Region.wanted,yielded,Act.put,go_sem]
   .simp[Act.eval,Act.put,go_sem]
   .refine(Ed w').mono ?_;rintro en w9 ⟨u,rfl,hu,hb⟩;exact⟨u,rfl,Am.of hb hg.1.base,hu,hg.1.later hb,by simpa [upd]using hg.2.later hb⟩
  case refine_4=>
   have k2:Fit 1 1 (sp 2) w':=(hdp 2 (mq (by kernel_rfl))).2
   (with_reducible refine Ac (w1:=w') (f := 113) (args:=#[.agg #[.slice x.1 x.2.1 x.2.2],sp 2]) ?_ ?_ ?_)
   .simp[Region.wanted,yielded,Act.put,go_sem]
   .simp[Act.eval,Act.put,go_sem]
   .refine(Vz (HP.out.keep hg.1.keep) k2 (by omega) (by decide)).mono ?_;rintro en w9 ⟨_,rfl,⟨p,n,c,rfl,hu1,hu2⟩,hb⟩;rw[decide_eq_true H1.out];exact⟨_,rfl,Am.of hb hg.1.base,⟨p,n,c,rfl,hu1,hu2⟩,hg.1.later hb,by simpa [upd]using hg.2.later hb⟩
  case refine_5=>
   have k3:Gh e (P-1) (.bool true) (sp 3) w':=(hdp 3 (mq (by kernel_rfl))).2
   (with_reducible refine Ai (w1:=w') (v:=sp 3) ?_ ?_ ?_)
   .simp[Region.wanted,yielded,Act.put,go_sem]
   .simp[execOp,Act.eval,Act.put,go_sem]
   .exact⟨Am.same _ _,k3,hg.1,by simpa [upd]using hg.2⟩
  case refine_6=>
   have hx:∃p n c,sp 4=.tuple #[.agg #[.slice p n c],.bool true]/\Ag w' p n c (P-1)/\P-1<An (e):=(hdp 4 (mq (by kernel_rfl))).2
   (with_reducible refine Aw hx fun p hx1=>Aw hx1 fun n hx2=>Aw hx2 fun c hx3=>?_)
   have h1:=hx3.1
   (with_reducible refine Ai (w1:=w') (v:=.agg #[.slice p n c]) ?_ ?_ ?_)
   .simp[Region.wanted,yielded,Act.put,go_sem]
   .simp[execOp,Act.eval,Act.put,go_sem,h1]
   .exact⟨Am.same _ _,⟨p,n,c,rfl,hx3.2⟩,hg.1,by simpa [upd]using hg.2⟩
  case refine_7=>
   have hx:∃p n c,sp 4=.tuple #[.agg #[.slice p n c],.bool true]/\Ag w' p n c (P-1)/\P-1<An (e):=(hdp 4 (mq (by kernel_rfl))).2
   (with_reducible refine Aw hx fun p hx1=>Aw hx1 fun n hx2=>Aw hx2 fun c hx3=>?_)
   have h1:=hx3.1
   with_reducible refine Ad ?_ ?_
   all_goals simp[Region.wanted,yielded,execOp,Act.eval,Act.put,go_sem,h1]
  case refine_8=>
   have h9:D 8=false:=hW 8 (mq (by kernel_rfl));rw[hD,h9]at hg
   (with_reducible refine Ai (w1:=w'.alloc (.cells #[.slice none 0 0] 37)) (v:=.pointer (some ⟨w'.heap.size,0,none⟩)) ?_ ?_ ?_)
   .simp[Region.wanted,yielded,Act.put,go_sem]
   .simp[execOp,go_sem]
   .have hb:Below w'.heap.size w' (w'.alloc (.cells #[.slice none 0 0] 37)):=Bq;refine⟨Am.of hb hg.1.base,trivial,hg.1.later hb,?_⟩;have h8:=hg.2.made;simpa [upd,h9]using h8
  case refine_9=>
   have hx:∃p n c,sp 5=.agg #[.slice p n c]/\Ag w' p n c (P-1)/\P-1<An (e):=(hdp 5 (mq (by kernel_rfl))).2
   (with_reducible refine Aw hx fun p hx1=>Aw hx1 fun n hx2=>Aw hx2 fun c hx3=>?_)
   have h1:=hx3.1;have h9:D 7=true:=(hdp 7 (mq (by kernel_rfl))).1;rw[h9]at hg
   have hp:=hg.2.put (hx3.2.1)
   (with_reducible refine Aw hp fun b hy0=>Aw hy0 fun q hy1=>Aw hy1 fun m hy2=>Aw hy2 fun k hy3=>?_)
   have h3:=hy3.1;have h6:=hy3.2.2.1.cell;have h7:=hy3.2.2.1.free
   (with_reducible refine Ap (w1:=w'.setCell ⟨b,0,none⟩ (.slice p n c)) ?_ ?_ ?_)
   .simp[Region.wanted,yielded,Act.put,go_sem]
   .simp[execOp,Act.eval,Act.put,go_sem,h1,h3,h6,h7]
   .refine⟨Am.store hy3.2.2.1 (Ee HB.out.size hy3.2.1) _,trivial,hg.1.store_over hy3.2.2.1 HB.out.size hy3.2.1 HLT.out _,?_⟩;have h8:=hy3.2.2.2;simpa [upd,h9]using h8
  all_goals ((with_reducible refine Ad ?_ ?_);all_goals first|(simp only[Region.wanted];done)|simp[Region.wanted,yielded,execOp,Act.eval,Act.put,go_sem])
 .intro sp w2 hsp hg;obtain⟨hg1,_,hmk⟩:=hg;obtain⟨b4,e4,hb4,p4,n4,c4,hx4,hn4⟩:=hmk rfl;replace hn4:=hn4 rfl;have HK2:=Ab hg1;have HX4:=Ab hx4;have HN4:=Ab hn4;have HB4:=Ab hb4;have hx4lt:=hx4.lt;obtain⟨c0,cy,c2,c3⟩:=Do.cells ⟨hg1.of List.mem_cons_self⟩;have cx4:=hx4.cell;have hLP:P-1<An e:=by have:=HP.out.lim;omega
  have HLP:=Ab hLP;clear hsp hg1 hmk hx4 hn4 hb4 hLP;simp only[Al,Nat.reduceAdd];rw[e4];clear e4;generalize sp 2=y2,sp 3=y3,sp 4=y4,sp 5=y5,sp 8=y8 at *
  go_simp
  go_wp2_with fail
  refine(Sj (Fit.of HN4.out HLP.out) (HQ.out.keep HK2.out.keep) (by have:=H2.out;omega) (by omega) (by omega)).mono ?_;rintro en w3 ⟨_,rfl,⟨p6,n6,c6,p7,n7,c7,rfl,hq6,hq7⟩,hb3⟩;have HK3:=Ab (HK2.out.later hb3);have HQ6:=Ab hq6;have HQ7:=Ab hq7;have hs3:=HB4.out;have HS3:Aa (wa.heap.size<=w3.heap.size):=⟨by have:=hb3.size;have:=hx4lt;omega⟩
  have hb5:Below w3.heap.size w3 ((w3.alloc (.cells #[.slice p6 n6 c6] 37)).alloc (.cells #[.slice p7 n7 c7] 37)):=((Ba _ _).alloc (Av _) _).alloc (by simp) _;have hB6:=Af.made w3 (.slice p6 n6 c6);have hB7:=Af.made (w3.alloc (.cells #[.slice p6 n6 c6] 37)) (.slice p7 n7 c7);have hB6':=hB6.below (B:=(w3.alloc (.cells #[.slice p6 n6 c6] 37)).heap.size) ((Ba _ _).alloc (Av _) (.cells #[.slice p7 n7 c7] 37)) (by simp);rw[show (w3.alloc (.cells #[.slice p6 n6 c6] 37)).heap.size=w3.heap.size+1 by simp]at hB7
  obtain⟨w5,hw5⟩:∃w5,(w3.alloc (.cells #[.slice p6 n6 c6] 37)).alloc (.cells #[.slice p7 n7 c7] 37)=w5:=⟨_,rfl⟩
  rw[hw5]at hb5 hB6' hB7
  have HB6:=Ab hB6';have HB7:=Ab hB7;have HK5:=Ab (HK3.out.later hb5);have HQ6':=Ab (HQ6.out.below hb5);have HF7:Aa (Fit e ((P-1)%Q) (.agg #[.slice p7 n7 c7]) w5):=⟨Fit.of (HQ7.out.below hb5) (by have:=Nat.mod_le (P-1) Q;have:=HLP.out;omega)⟩
  have HLQ:Aa ((P-1)/Q<An e):=⟨Nat.lt_of_le_of_lt (Nat.div_le_self _ _) HLP.out⟩
  have HNE:Aa (∀g∈([(w3.heap.size,.cells #[.slice p6 n6 c6] 37 (0,0)),(w3.heap.size+1,.cells #[.slice p7 n7 c7] 37 (0,0))]:List (Nat×Obj)),g.1≠w.heap.size+1):=⟨List.forall_mem_cons.2 ⟨by simp only;have:=HSZ.out;have:=HS3.out;omega,List.forall_mem_cons.2 ⟨by simp only;have:=HSZ.out;have:=HS3.out;omega,fun g hx=>by cases hx⟩⟩⟩
  have HB0:Aa (w.heap.size<=w.heap.size+1):=⟨by omega⟩
  have HR5:=Ab (HK5.out.of (List.mem_cons_of_mem _ List.mem_cons_self));clear hq6 hq7 hb3 c0 cy c2 c3 cx4 hs3 hb5 hB6 hB6' hB7 hx4lt;go_wp2;refine Aj (by kernel_rfl) (by kernel_rfl)
   [some (.agg #[.slice p6 n6 c6]),some (.agg #[.slice p7 n7 c7]),none,none,some (.bool ANS)]
   [false,false,true,true,false] rfl
   (fun w1 w2=>Am (w.heap.size) w1 w2)
   (fun D sp w'=>RG (w.heap.size) w5 [(w3.heap.size,.cells #[.slice p6 n6 c6] 37 (0,0)),(w3.heap.size+1,.cells #[.slice p7 n7 c7] 37 (0,0))] w'/\Xu (D 3) (w.heap.size+1) ((P-1)/Q) w')
   (fun i v w'=>match i with
    | 2=>v=.bool ANS
    | _=>True)
   ?_ ⟨RG.start HK5.out.base (List.forall_mem_cons.2 ⟨HB6.out,List.forall_mem_cons.2 ⟨HB7.out,fun g hx=>by cases hx⟩⟩),Xu.fresh (show Af _ _ _ from HR5.out)⟩ ?_ ?_
  .intro i v w1 w2 hf hb;split at hf
   .exact hf
   .trivial
  .simp only[Az,Nat.reduceAdd];refine⟨?_,?_,?_,?_,?_,trivial⟩
   all_goals intro D sp w' hD hW hdp hg
   case refine_1=>
    have c0:w'.cell? ⟨w3.heap.size,0,none⟩=some (.slice p6 n6 c6):=Af.cell (hg.1.of List.mem_cons_self)
    with_reducible refine Ad ?_ ?_
    all_goals simp[Region.wanted,yielded,execOp,Act.eval,Act.put,go_sem,c0]
   case refine_2=>
    have c0:w'.cell? ⟨w3.heap.size+1,0,none⟩=some (.slice p7 n7 c7):=Af.cell (hg.1.of (List.mem_cons_of_mem _ List.mem_cons_self))
    with_reducible refine Ad ?_ ?_
    all_goals simp[Region.wanted,yielded,execOp,Act.eval,Act.put,go_sem,c0]
   case refine_3=>
    (with_reducible refine Ac (w1:=w') (f := 21) (args:=#[.agg #[.slice p7 n7 c7]]) ?_ ?_ ?_)
    .simp[Region.wanted,yielded,Act.put,go_sem]
    .simp[Act.eval,Act.put,go_sem]
    .refine(Xv (HF7.out.keep hg.1.keep)).mono ?_;rintro en w9 ⟨_,rfl,rfl,hb⟩;rw[HANS.out];exact⟨_,rfl,Am.of hb hg.1.base,rfl,hg.1.later hb,by simpa [upd]using hg.2.later hb⟩
   case refine_4=>
    have hp:=hg.2.put (hg.1.keep.nat _ _ _ _ HQ6'.out)
    (with_reducible refine Aw hp fun q hy1=>Aw hy1 fun m hy2=>Aw hy2 fun k hy3=>?_)
    have h6:=hy3.1.cell;have h7:=hy3.1.free
    (with_reducible refine Ap (w1:=w'.setCell ⟨w.heap.size+1,0,none⟩ (.slice p6 n6 c6)) ?_ ?_ ?_)
    .simp[Region.wanted,yielded,Act.put,go_sem]
    .simp[execOp,Act.eval,Act.put,go_sem,h6,h7]
    .refine⟨Am.store hy3.1 HB0.out _,trivial,hg.1.store hy3.1 HB0.out HNE.out _,?_⟩;have h8:=hy3.2;simpa [upd]using h8
   case refine_5=>
    have k2:(sp 2)=.bool ANS:=(hdp 2 (mq (by kernel_rfl))).2
    with_reducible refine Ad ?_ ?_
    all_goals simp[Region.wanted,yielded,execOp,Act.eval,Act.put,go_sem,k2]
  .intro sp w7 hsp hg;obtain⟨hg1,pz,nz,cz,hz1,hz2⟩:=hg;have kz:=hz1.cell;have HZ:=Ab (hz2 rfl);have HE7:=Ab (HB.out.trans (HK5.out.keep.trans hg1.keep).bel);clear hsp hg1 hz1 hz2;simp only[Al,Nat.reduceAdd];generalize sp 2=y2,sp 3=y3 at *
   go_simp
   go_wp2;exact bodyPost_ret (v:=.tuple #[.agg #[.slice pz nz cz],.bool ANS]) (by simp[results,Tryz.results182,go_sem,kz]) rfl ⟨_,rfl,Fit.of HZ.out HLQ.out,HE7.out⟩
theorem lA {w:World}{r q e ex n c X:Nat}{p:Option Addr}{As:List Nat}{v:Value}(hR:Ring w r q 33)(hA:Aq w e p n c As)(hX:Fit ex X v w)(he:e<=200)(hex:ex<=200)(hn:n<=1000000) :
  Calls Tryz.prog 102 #[.pointer (some ⟨r,0,none⟩),.slice p n c,v] w fun en w'=>∃x,en=.returned x/\Fit 33 (Bp q X As) x w'/\Below w.heap.size w w':=by
 obtain⟨px,nx,cx,rfl,x1,x2⟩:=Ao hX;have hbx:=aZ.mk2 w (.slice px nx cx) (.slice none 0 0);have HR:=Ab (hR.below hbx.bel);have HA:=Ab (hA.below hbx.bel);have HX:=Ab ((Fit.of x1 x2).below hbx.bel);have HBX:=Ab hbx;have c0:=hbx.b0.cell;clear hR hA hX x1 hbx;go_enter Tryz.func102,Tryz.ntmps102
 go_wp2_with fail
 refine(Ce HR.out HX.out (by omega)).mono ?_;rintro en w1 ⟨_,rfl,⟨p1,n1,c1,rfl,h1,l1⟩,hb1⟩;have HF1:=Ab (Fit.of h1 l1);have HB1:=Ab hb1;clear h1 hb1 c0
 go_wp2_with fail
 refine(Bi (n:=0) w1 (by omega)).mono ?_;rintro en w2 ⟨_,rfl,⟨p2,n2,c2,rfl,h2,l2⟩,hb2⟩;have hb12:=Ae HB1.out hb2;have HV:=Ab (callsIn_wide.1 (Yd w2 (enters_of Tryz.func32 (by kernel_rfl) rfl) (enters_of Tryz.func33 (by kernel_rfl) rfl) (jX (HR.out.below hb12)) (jW (HR.out.below hb12)) (HA.out.below hb12) (HF1.out.below hb2) ((Fit.of h2 l2).wide (by decide:2<=33)) he (by decide) hn));have HX2:=Ab (HBX.out.later hb12);clear h2 hb2 hb12 HB1 HBX HR HA HF1
 go_wp2_with fail
 refine HV.out.mono ?_;rintro en w3 ⟨_,rfl,⟨p3,n3,c3,rfl,h3,l3⟩,hb3⟩;rw[Ye,Sb]at h3 l3
 have hx3:=HX2.out.later hb3;have k1:=hx3.b1.cell;have f1:=hx3.b1.free;have HF:=Ab (Fit.of (h3.store hx3.b1 (.slice p3 n3 c3)) l3);have HBF:Aa (Below w.heap.size w (w3.setCell ⟨w.heap.size+1,0,none⟩ (.slice p3 n3 c3))):=⟨hx3.bel.setCell (by simp) _⟩
 clear h3 hx3 hb3 HV HX2;go_wp2;exact bodyPost_ret (v:=.agg #[.slice p3 n3 c3]) (by simp[results,Tryz.results102,go_sem,k1]) rfl ⟨_,rfl,HF.out,HBF.out⟩
theorem aE {w:World}{b P Q G H e ex n c X:Nat}{p:Option Addr}{As:List Nat}{v:Value}(hG:Au w b P Q G H)(hA:Aq w e p n c As)(hX:Fit ex X v w)(he:e<=200)(hex:ex<=200)(hn:n<=1000000) :
  Calls Tryz.prog 233 #[.pointer (some ⟨b,0,none⟩),.slice p n c,v] w fun en w'=>∃x,en=.returned x/\Fit 33 (Lo P (X%Q) As) x w'/\Below w.heap.size w w':=by
 obtain⟨px,nx,cx,rfl,x1,x2⟩:=Ao hX;have hbx:=aZ.mk2 w (.slice px nx cx) (.slice none 0 0);have HG:=Ab (hG.below hbx.bel);have HA:=Ab (hA.below hbx.bel);have HX:=Ab ((Fit.of x1 x2).below hbx.bel);have HBX:=Ab hbx;clear hG hA hX x1 hbx;go_enter Tryz.func233,Tryz.ntmps233
 go_wp2_with fail
 refine(Dx HG.out).mono ?_;rintro en w0 ⟨r,rfl,hr0,hb0⟩;have HR:=Ab hr0;have HB0:=Ab hb0;have c0:=(HBX.out.later hb0).b0.cell;clear hr0 hb0
 go_wp2_with fail
 refine(Ce HR.out (HX.out.below HB0.out) (by omega)).mono ?_;rintro en w1 ⟨_,rfl,⟨p1,n1,c1,rfl,h1,l1⟩,hb1⟩;have HF1:=Ab (Fit.of h1 l1);have HB1:=Ab (Ae HB0.out hb1);clear h1 hb1 c0
 go_wp2_with fail
 refine(Bi (n:=1) w1 (by omega)).mono ?_;rintro en w2 ⟨_,rfl,⟨p2,n2,c2,rfl,h2,l2⟩,hb2⟩;have hb12:=Ae HB1.out hb2;have HV:=Ab (callsIn_wide.1 (Yd w2 (enters_of Tryz.func124 (by kernel_rfl) rfl) (enters_of Tryz.func25 (by kernel_rfl) rfl) (nO (HG.out.below hb12)) (nP (HG.out.below hb12)) (HA.out.below hb12) (HF1.out.below hb2) ((Fit.of h2 l2).wide (by decide:2<=33)) he (by decide) hn));have HX2:=Ab (HBX.out.later hb12);clear h2 hb2 hb12 HB1 HBX HR HA HF1 HB0
 go_wp2_with fail
 refine HV.out.mono ?_;rintro en w3 ⟨_,rfl,⟨p3,n3,c3,rfl,h3,l3⟩,hb3⟩;rw[Ty]at h3 l3
 have hx3:=HX2.out.later hb3;have k1:=hx3.b1.cell;have f1:=hx3.b1.free;have HF:=Ab (Fit.of (h3.store hx3.b1 (.slice p3 n3 c3)) l3);have HBF:Aa (Below w.heap.size w (w3.setCell ⟨w.heap.size+1,0,none⟩ (.slice p3 n3 c3))):=⟨hx3.bel.setCell (by simp) _⟩
 clear h3 hx3 hb3 HV HX2;go_wp2;exact bodyPost_ret (v:=.agg #[.slice p3 n3 c3]) (by simp[results,Tryz.results233,go_sem,k1]) rfl ⟨_,rfl,HF.out,HBF.out⟩
theorem dF {q n V:Nat}{Bs:List Nat}(h:Eu q n V Bs=0):n=V:=by
 unfold Eu at h
 by_cases h0:n=0
 .rw[if_pos h0]at h;omega
 .rw[if_neg h0]at h
  by_cases h1:n=V
  .exact h1
  .rw[if_pos h1]at h;omega
def iU (Q:Nat)(v:Value)(w:World):Prop:=∃r,v=.pointer (some ⟨r,0,none⟩)/\Ring w r Q 33
theorem iU.below {Q:Nat}{v:Value}{w w':World}(h:iU Q v w)(hb:Below w.heap.size w w'):iU Q v w':=let ⟨r,h1,h2⟩:=h;⟨r,h1,h2.below hb⟩
def pR (n:Nat)(Ns:List Nat)(v:Value)(w:World):Prop:=∃g,v=.slice (some ⟨g,0,none⟩) n n/\Aq w 33 (some ⟨g,0,none⟩) n n Ns
theorem pR.below {n:Nat}{Ns:List Nat}{v:Value}{w w':World}(h:pR n Ns v w)(hb:Below w.heap.size w w'):pR n Ns v w':=let ⟨g,h1,h2⟩:=h;⟨g,h1,h2.below hb⟩
theorem kS {w:World}{b P Q G H:Nat}(h:Au w b P Q G H):Calls Tryz.prog 30 #[.pointer (some ⟨b,0,none⟩)] w fun en w'=>∃u,en=.returned u/\iU Q u w'/\Below w.heap.size w w':=by
 refine(Dx h).mono ?_;rintro en w' ⟨r,rfl,hr,hb⟩;exact⟨_,rfl,⟨r,rfl,hr⟩,hb⟩
def pT (f N:Nat)(w:World)(en:Ending)(w':World):Prop :=
 (f≠0->en=.returned (.tuple #[.agg #[.slice none 0 0],.int .i64 (f:Nat)]))/\(f=0->∃x,en=.returned (.tuple #[x,.int .i64 0])/\Fit 33 N x w')/\Below w.heap.size w w'
theorem Zp {w:World}{r q e e2 ey n c V cy X:Nat}{p py:Option Addr}{Bs Ys:List Nat}{v:Value}(hq:Bf q)(hR:Ring w r q 33)(h:Aq w e p n c Bs)(hY:Aq w ey py V cy Ys)(hX:Fit e2 X v w)(he:e<=200)(he2:e2<=200)(hey:ey<=200)(hn:n<=12)(hV:V<=1000000) :
  Calls Tryz.prog 167 #[.pointer (some ⟨r,0,none⟩),.slice p n c,.slice py V cy,v] w (pT (Eu q n V Bs) (Jr q X [] Bs Ys 0) w):=by
 obtain⟨px,nx,cx,rfl,x1,x2⟩:=Ao hX;have hbx:=aZ.mk2 w (.slice px nx cx) (.slice none 0 0);obtain⟨W0,hW0⟩:∃W,(w.alloc (.cells #[.slice px nx cx] 37)).alloc (.cells #[.slice none 0 0] 37)=W:=⟨_,rfl⟩
 rw[hW0]at hbx
 have HP:=Ab (h.below hbx.bel);have HY:=Ab (hY.below hbx.bel);have HX:=Ab ((Fit.of x1 x2).below hbx.bel);have HBX:=Ab hbx;have HQ:=Ab hq;have HR:=Ab (hR.below hbx.bel);have c0:=hbx.b0.cell;clear hq hR h hY hX x1 hbx
 by_cases hf:Eu q n V Bs=0
 .obtain rfl:=dF hf;have HFA:=Ab hf;have HW:=Ab (pX HQ.out HR.out HP.out HX.out he he2 hn hf);clear hf;go_enter Tryz.func167,Tryz.ntmps167
  go_wp2_with fail
  refine HW.out.mono ?_;rintro en w7 ⟨g,rfl,hp,hb7⟩;have HPW:=Ab hp;have HB7:=Ab hb7;clear hp hb7 c0 HW hW0;have hx7:=HBX.out.later HB7.out;have HX7:=Ab hx7;clear hx7
  go_wp2_with fail
  refine(Bi (n:=0) w7 (by omega)).mono ?_;rintro en w2 ⟨_,rfl,⟨p2,n2,c2,rfl,h2,l2⟩,hb2⟩;have hb02:=Ae HB7.out hb2;have HV:=Ab (Yc (w:=w2) (enters_of Tryz.func32 (by kernel_rfl) rfl) (enters_of Tryz.func33 (by kernel_rfl) rfl) (jX (HR.out.below hb02)) (jW (HR.out.below hb02)) (HY.out.below hb02) (HPW.out.below hb2) ((Fit.of h2 l2).wide (by decide:2<=33)) hey (by omega) ⟨_,rfl⟩ ⟨_,rfl⟩);have HX2:=Ab (HX7.out.later hb2);clear h2 hb2 hb02 HX7
  go_wp2_with fail
  refine HV.out.mono ?_;rintro en w3 ⟨_,rfl,⟨p3,n3,c3,rfl,h3,l3⟩,hb3⟩;rw[Tv]at h3 l3
  have hx3:=HX2.out.later hb3;have k1:=hx3.b1.cell;have f1:=hx3.b1.free;have HF:=Ab (Fit.of (h3.store hx3.b1 (.slice p3 n3 c3)) l3);have HBF:Aa (Below w.heap.size w (w3.setCell ⟨w.heap.size+1,0,none⟩ (.slice p3 n3 c3))):=⟨hx3.bel.setCell (by simp) _⟩
  clear h3 hx3 hb3 HV HX2;go_wp2;exact bodyPost_ret (v:=.tuple #[.agg #[.slice p3 n3 c3],.int .i64 0]) (by simp[results,Tryz.results167,go_sem,k1]) rfl ⟨fun hne=>absurd HFA.out hne,fun _=>⟨_,rfl,HF.out⟩,HBF.out⟩
 .have HFA:Aa _:=⟨hf⟩
  have HW:=Ab (oV HR.out HP.out HX.out he hn hV hf);obtain⟨E,hE⟩:∃E,Eu q n V Bs=E:=⟨_,rfl⟩
  have HEE:=Ab hE;have hne:((E:Int)!=0)=true:=by rw[bne_iff_ne];rw[hE]at hf;omega
  clear hf;go_enter Tryz.func167,Tryz.ntmps167
  go_wp2_with fail
  refine HW.out.mono ?_;rintro en w7 ⟨rfl,hb7⟩;have HB7:=Ab hb7;simp only[hE];clear hb7 c0 HW hW0 hE;have hx7:=HBX.out.later HB7.out;have k1:=hx7.b1.cell;have f1:=hx7.b1.free;have HBF:Aa (Below w.heap.size w (w7.setCell ⟨w.heap.size+1,0,none⟩ (.slice none 0 0))):=⟨hx7.bel.setCell (by simp) _⟩
  clear hx7;go_wp2;exact bodyPost_ret (v:=.tuple #[.agg #[.slice none 0 0],.int .i64 (E:Nat)]) (by simp[results,Tryz.results167,go_sem,k1]) rfl ⟨fun _=>by rw[HEE.out],fun h0=>absurd h0 HFA.out,HBF.out⟩
structure En (w:World) (B:Nat) (v:Value) (us:List (Option Addr×Nat×Nat)):Prop where
 ex:(v=.slice none 0 0/\us=[]) ∨ ∃(g cap:Nat) (rest:List (Option Addr×Nat×Nat)),v=.slice (some ⟨g,0,none⟩) us.length cap/\B<=g/\Ej w g us (rest.map sv)/\us.length+rest.length=cap/\cap<=9223372036854775807
theorem En.nil (w:World)(B:Nat):En w B (.slice none 0 0) []:=⟨.inl ⟨rfl,rfl⟩⟩
theorem En.own {w:World}{B g:Nat}{v:Value}{us:List (Option Addr×Nat×Nat)}(h:En w B v us)(hg:v.ownBlock=some g):B<=g/\g<w.heap.size:=by
 rcases h.ex with ⟨rfl,_⟩|⟨g',cap,rest,rfl,h1,h2,_⟩
 .cases hg
 .obtain rfl:g'=g:=by simpa [Value.ownBlock]using hg
  exact⟨h1,h2.lt⟩
theorem En.keep {w w':World}{B:Nat}{v:Value}{us:List (Option Addr×Nat×Nat)}(h:En w B v us)(hk:∀g,v.ownBlock=some g->w'.heap[g]? = w.heap[g]?):En w' B v us:=by
 rcases h.ex with h1|⟨g,cap,rest,rfl,h1,h2,h3⟩
 .exact⟨.inl h1⟩
 .exact⟨.inr ⟨g,cap,rest,rfl,h1,by unfold Ej at *;rw[hk g rfl];exact h2,h3⟩⟩
theorem En.below {w w':World}{B:Nat}{v:Value}{us:List (Option Addr×Nat×Nat)}(h:En w B v us)(hb:Below w.heap.size w w'):En w' B v us:=h.keep fun g hg=>hb.block g (h.own hg).2
theorem En.slice {w:World}{B:Nat}{v:Value}{us:List (Option Addr×Nat×Nat)}(h:En w B v us):∃p c,v=.slice p us.length c:=by
 rcases h.ex with ⟨rfl,rfl⟩|⟨g,cap,rest,rfl,_⟩
 .exact⟨_,_,rfl⟩
 .exact⟨_,_,rfl⟩
theorem Ej.all {w:World}{g j:Nat}{us rest:List (Option Addr×Nat×Nat)}{u:Value}(h:Ej w g us (rest.map sv))(hc:w.cell? ⟨g,j,none⟩=some u):∃x:Option Addr×Nat×Nat,u=sv x:=by
 unfold Ej at h;rw[<-List.map_append]at h
 simp only[World.cell?,h,List.getElem?_toArray,List.getElem?_map]at hc
 cases hx:(us++rest)[j]? with
 | none=>rw[hx]at hc;simp at hc
 | some x=>rw[hx]at hc;simp at hc;exact⟨x,hc.symm⟩
theorem Ej.apart {w:World}{p:Option Addr}{n c N g:Nat}{us rest:List (Option Addr×Nat×Nat)}(hr:Ej w g us (rest.map sv))(h:Ag w p n c N)(h0:0<n):∀q,p=some q->q.block≠g:=by
 obtain⟨ws,r1,r2,r3,r4⟩:=h.ex;intro a ha hab;obtain⟨b',off,k1,k2,k3⟩:=r1.pos h0;rw[k1]at ha;cases ha
 have hbb:b'=g:=hab;subst hbb;have h1:=k3 0 (ws.getD 0 0) (by rw[Dy];simp[show 0<ws.length by rw[<-r1.len];exact h0]);rw[Nat.add_zero]at h1
 obtain⟨x,hx⟩:=hr.all h1;unfold sv at hx;cases hx
theorem Fp {w w':World}{p:Option Addr}{n c N:Nat}{v:Value}{us:List (Option Addr×Nat×Nat)}{B:Nat}(hr:En w B v us)(hg:w.grownBy w' v.ownBlock)(h:Ag w p n c N):Ag w' p n c N:=by
 rcases Nat.eq_zero_or_pos n with rfl|h0
 .obtain⟨ws,r1,r2,r3,r4⟩:=h.ex;refine⟨ws,⟨r1.len,r1.cap,r1.max,?_⟩,r2,r3,r4⟩;rcases r1.at_ with k|⟨b,off,k1,k2,k3⟩
  .exact .inl k
  .refine .inr ⟨b,off,k1,Da k2 hg.size,fun i x hx=>?_⟩;have:ws=[]:=List.eq_nil_of_length_eq_zero r1.len.symm;rw[this]at hx;cases hx
 .refine Cj.stay h hg.size fun q hq o=>World.cell?_of_block (a:=⟨q.block,o,none⟩) (hg.block q.block (Cj.lt h q hq) fun e=>?_)
  rcases hr.ex with ⟨rfl,_⟩|⟨g,cap,rest,rfl,_,h2,_⟩
  .cases e
  .have e2:q.block=g:=by simpa [Value.ownBlock]using e
   exact h2.apart h h0 q hq e2
theorem Og (n:Nat):Builtin.zeroCells (Value.agg #[.slice none 0 0]).cells n=((List.replicate n ((none,0,0):Option Addr×Nat×Nat)).map sv).toArray:=by
 have:(Value.agg #[.slice none 0 0]).cells=#[.slice none 0 0]:=by simp[Value.cells]
 rw[this];unfold Builtin.zeroCells;rw[List.map_replicate];apply Array.ext';have h1:(fun i:Nat=>([Value.slice none 0 0]:List Value)[i%1]?.getD default)=fun _=>Value.slice none 0 0:=by funext i;simp[Nat.mod_one]
 simp[sv];rw[h1];rw[List.map_const',List.length_range]
theorem En.app {w:World}{B:Nat}{v:Value}{us:List (Option Addr×Nat×Nat)}(h:En w B v us){a:Addr}{c:Nat}{x:Option Addr×Nat×Nat}(hc:w.cell? a=some (sv x))(hB:B<=w.heap.size)(hl:us.length<=100000)(ty:TypeId) :
  ∃v' w',(Builtin.append_ #[62, 62] ty #[v,.slice (some a) 1 c]).run Tryz.prog w=.ok v' w'/\En w' B v' (us++[x])/\w.grownBy w' v.ownBlock/\Pf w v v':=by
 obtain⟨i,hi,hz,hs,hb⟩:=info_parts Tryz.info_Nat;have hu:=Tryz.underlying62;have ha0:a.add 0=a:=by obtain⟨b,o,s⟩:=a;simp[Addr.add]
 have hnew:∀j u,([sv x]:List Value)[j]? = some u->w.cell? (a.add j)=some u:=fun j u hj=>by
  cases j with
  | zero=>simp at hj;subst hj;rw[ha0];exact hc
  | succ j=>simp at hj
 have hby:i.bytes<=1000:=by rw[hb];decide
 have hzc:∀n,Builtin.zeroCells (Value.agg #[Value.slice none 0 0]).cells n=((List.replicate n ((none,0,0):Option Addr×Nat×Nat)).map sv).toArray:=Og;rcases h.ex with ⟨rfl,rfl⟩|⟨g,cap,rest,rfl,hbg,hx,hcap,hmx⟩
 .have hr:=run_append_nil (P:=Tryz.prog) (w:=w) 62 ty 37 i _ hu hi hz a 1 c [sv x] (by rw[hs];rfl) hnew (by decide) (by decide) (by omega);rw[hzc]at hr
  refine⟨_,_,hr,⟨.inr ⟨w.heap.size,grownCap w 1 0 37,List.replicate (grownCap w 1 0 37 - 1) (none,0,0),rfl,hB,?_,?_,?_⟩⟩,⟨rfl,rfl,rfl,by simp,fun k hk _=>((Ba w.heap.size w).drew.alloc (Av _) _).block k hk⟩,.inr fun g hg=>?_⟩
  .unfold Ej;rw[show (w.drew.alloc (.cells ([sv x].toArray++((List.replicate (grownCap w 1 0 37 - 1) ((none,0,0):Option Addr×Nat×Nat)).map sv).toArray) 37)).heap[w.heap.size]? = some (.cells ([sv x].toArray++((List.replicate (grownCap w 1 0 37 - 1) ((none,0,0):Option Addr×Nat×Nat)).map sv).toArray) 37 (0,0)) from heap_alloc_new w.drew _];simp
  .have:=grownCap_ge w 1 0 37;simp;omega
  .have:=grownCap_le_maxLen w 1 0 37 (by decide);simpa [maxLen]using this
  .have:w.heap.size=g:=by simpa [Value.ownBlock]using hg
   omega
 .have hxb:=hx;unfold Ej at hxb
  cases rest with
  | nil=>
   have hcn:cap=us.length:=by simpa using hcap.symm
   subst hcn;have hgg:us.length<us.length+1:=by omega
   have hr:=run_append_grow (P:=Tryz.prog) (w:=w) 62 ty 37 i _ hu hi hz ⟨g,0,none⟩ us.length us.length (us.map sv) (by rw[hs];simp) (fun j u hj=>by
     rw[List.getElem?_map]at hj
     cases hy:us[j]? with
     | none=>rw[hy]at hj;cases hj
     | some y=>
      rw[hy]at hj;cases hj
      have:=hx.cell hy;rw[add_plain g 0 j,Nat.zero_add];exact this) a 1 c [sv x] (by rw[hs];rfl) hnew hgg (by omega) (growslice_fits hgg (Ee (Nat.mul_le_mul (by omega:us.length+1<=100001) hby) (by decide)))
   rw[hzc]at hr
   obtain⟨C,hC⟩:∃C,grownCap w (us.length+1) us.length 37 = C:=⟨_,rfl⟩
   have h1:=grownCap_ge w (us.length+1) us.length 37;have h2:=grownCap_le_maxLen w (us.length+1) us.length 37 (by simp[maxLen];omega);rw[hC]at hr h1 h2
   refine⟨_,_,hr,⟨.inr ⟨w.heap.size,C,List.replicate (C-(us.length+1)) (none,0,0),by rw[List.length_append];rfl,hB,?_,?_,by simpa [maxLen]using h2⟩⟩,⟨rfl,rfl,rfl,by simp,fun k hk _=>((Ba w.heap.size w).drew.alloc (Av _) _).block k hk⟩,.inr fun g' hg'=>?_⟩
   .unfold Ej;rw[show (w.drew.alloc (.cells ((us.map sv).toArray++[sv x].toArray++((List.replicate (C-(us.length+1)) ((none,0,0):Option Addr×Nat×Nat)).map sv).toArray) 37)).heap[w.heap.size]? = some (.cells ((us.map sv).toArray++[sv x].toArray++((List.replicate (C-(us.length+1)) ((none,0,0):Option Addr×Nat×Nat)).map sv).toArray) 37 (0,0)) from heap_alloc_new w.drew _];simp
   .simp;omega
   .have:w.heap.size=g':=by simpa [Value.ownBlock]using hg'
    omega
  | cons r0 rest=>
   have hr:=run_append_room (P:=Tryz.prog) (w:=w) 62 ty 37 i hu hi g us.length cap _ hxb a 1 c [sv x] (by rw[hs];rfl) hnew (fun u hu'=>by simp at hu';subst hu';rfl) (by simp at hcap;omega) (by simp[hs]);refine⟨_,_,hr,⟨.inr ⟨g,cap,rest,by rw[List.length_append];rfl,hbg,?_,by simp at hcap ⊢;omega,hmx⟩⟩,⟨rfl,rfl,rfl,by simp,fun k hk hn=>setRow_other w g k _ (fun e=>hn (by rw[e];rfl))⟩,.inl rfl⟩;unfold Ej;rw[setRow_heap w g _ _ _ _ hxb];have h9:(us.map sv++sv r0::rest.map sv).drop (us.length+1)=rest.map sv:=by
    rw[show us.map sv++sv r0::rest.map sv=(us.map sv++[sv r0])++rest.map sv by simp];exact List.drop_left' (by simp)
   simp[hs,h9]
theorem En.plist {w:World}{B e:Nat}{v:Value}{us:List (Option Addr×Nat×Nat)}{Ns:List Nat}(h:En w B v us)(ht:Ea w e us Ns):∃p c,v=.slice p Ns.length c/\Aq w e p Ns.length c Ns:=by
 rcases h.ex with ⟨rfl,rfl⟩|⟨g,cap,rest,rfl,h1,h2,h3,h4⟩
 .have:Ns=[]:=List.eq_nil_of_length_eq_zero ht.len.symm;subst this;exact⟨_,_,rfl,⟨rfl,Av _,by omega,fun _=>rfl,fun h0=>by simp at h0⟩⟩
 .have hl:=ht.len;refine⟨some ⟨g,0,none⟩,cap,by rw[hl],⟨rfl,by omega,h4,(fun e=>by cases e),fun _=>⟨g,0,rfl,h2.lt,fun i N hN=>?_⟩⟩⟩;obtain⟨x,k1,k2,k3⟩:=ht.at_ i N hN
  exact⟨x.1,x.2.1,x.2.2,by rw[Nat.zero_add];exact h2.cell k1,k2,k3⟩
theorem Ea.grown {w w':World}{e B:Nat}{v:Value}{us us2:List (Option Addr×Nat×Nat)}{Ns:List Nat}(h:Ea w e us Ns)(hr:En w B v us2)(hg:w.grownBy w' v.ownBlock):Ea w' e us Ns :=
 ⟨h.len,fun i N hN=>let ⟨x,h1,h2,h3⟩:=h.at_ i N hN;⟨x,h1,Fp hr hg h2,h3⟩⟩
theorem Ea.snoc {w:World}{e N:Nat}{us:List (Option Addr×Nat×Nat)}{Ns:List Nat}{x:Option Addr×Nat×Nat}(h:Ea w e us Ns)(hx:Cr w x N)(hl:N<An e):Ea w e (us++[x]) (Ns++[N]):=by
 refine⟨by simp[h.len],fun i M hM=>?_⟩;rcases Nat.lt_or_ge i Ns.length with hi|hi
 .rw[List.getElem?_append_left hi]at hM
  obtain⟨y,h1,h2⟩:=h.at_ i M hM
  exact⟨y,by rw[List.getElem?_append_left (by rw[h.len];exact hi)];exact h1,h2⟩
 .rw[List.getElem?_append_right hi]at hM
  obtain⟨t,ht⟩:∃t,i-Ns.length=t:=⟨_,rfl⟩
  rw[ht]at hM
  cases t with
  | zero=>
   simp at hM;subst hM;exact⟨x,by rw[List.getElem?_append_right (by rw[h.len];exact hi),h.len,ht];rfl,hx,hl⟩
  | succ t=>simp at hM
theorem Ea.nil (w:World)(e:Nat):Ea w e [] []:=⟨rfl,fun i N hN=>by simp at hN⟩
end Go.Proofs.YtokhckjemidbpaaGreatDoor
