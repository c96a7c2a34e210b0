/- A group's parameters: how often Q goes into P - 1, whether they are right. -/
import Derived.Test.YtokhckjemidbpaaGreatDoorSgA
set_option maxRecDepth 1000000
set_option maxHeartbeats 16000000
set_option linter.all false
namespace Go.Proofs.YtokhckjemidbpaaGreatDoor
open Go Go.RowKit Go.Proofs.YtokhckjemidbpaaGreatDoor.Flow
theorem Fit.wide {e f N:Nat}{v:Value}{w:World}(h:Fit e N v w)(hf:e<=f):Fit f N v w:=h.tight (Dk h.lim (Bz hf))
theorem Ring.wide {w:World}{r M e f:Nat}(h:Ring w r M e)(hf:e<=f)(h2:f<=10000):Ring w r M f:=⟨h.at_,h.two,Dk h.lim (Bz hf),h2⟩
theorem Cm {n:Nat}(w:World)(hn:n<18446744073709551616):Calls Tryz.prog 17 #[.int .u64 (n:Nat)] w fun en w'=>∃x,en=.returned x/\Fit 2 n x w'/\Below w.heap.size w w':=by
 refine(Cp n w hn).mono ?_;rintro en w' ⟨p,m,c,rfl,h,hb,_⟩;exact⟨_,rfl,Fit.of h (by unfold Al;omega),hb⟩
theorem Qz {w:World}{e P Q:Nat}{x y z:Option Addr×Nat×Nat}{ps:Option Addr}{ns cs:Nat}(hP:Br w x P)(lP:P<Al e)(hQ:Br w y Q)(lQ:Q<Al e)(h1:1<=P)(h2:1<=Q)(he:e<=32) :
  Calls Tryz.prog 182 #[.agg #[.slice x.1 x.2.1 x.2.2,.slice y.1 y.2.1 y.2.2,.slice z.1 z.2.1 z.2.2,.slice ps ns cs]] w fun en w'=>∃u,en=.returned (.tuple #[u,.bool (decide ((P-1)%Q=0))])/\Fit e ((P-1)/Q) u w'/\Below w.heap.size w w':=by
 have hX0:=Cr.made 118 w (.slice x.1 x.2.1 x.2.2) (.slice y.1 y.2.1 y.2.2) (.slice z.1 z.2.1 z.2.2) (.slice ps ns cs);have hb0:Below w.heap.size w (w.alloc (.cells #[.slice x.1 x.2.1 x.2.2,.slice y.1 y.2.1 y.2.2,.slice z.1 z.2.1 z.2.2,.slice ps ns cs] 118)):=By;have hsz:(w.alloc (.cells #[.slice x.1 x.2.1 x.2.2,.slice y.1 y.2.1 y.2.2,.slice z.1 z.2.1 z.2.2,.slice ps ns cs] 118)).heap.size=w.heap.size+1:=by simp
 obtain⟨wz,hwz⟩:∃wz,w.alloc (.cells #[.slice x.1 x.2.1 x.2.2,.slice y.1 y.2.1 y.2.2,.slice z.1 z.2.1 z.2.2,.slice ps ns cs] 118)=wz:=⟨_,rfl⟩
 rw[hwz]at hX0 hb0 hsz
 have hR0:=Ae.made wz (.slice none 0 0);have hba:Below wz.heap.size wz (wz.alloc (.cells #[.slice none 0 0] 37)):=By;obtain⟨wa,hwa⟩:∃wa,wz.alloc (.cells #[.slice none 0 0] 37)=wa:=⟨_,rfl⟩
 rw[hwa]at hR0 hba
 have hX1:=hX0.below hba hX0.lt;rw[hsz]at hR0
 have hbel:=Ab hb0 hba;have HX:=Ac hX1;have HR:=Ac hR0;have HB:=Ac hbel;have HSZ:Aa (w.heap.size+1+1<=wa.heap.size):=⟨hR0.lt⟩
 have HP:Aa (Fit e P (.agg #[.slice x.1 x.2.1 x.2.2]) wa):=⟨(Fit.of hP lP).below hbel⟩
 have HQ:Aa (Fit e Q (.agg #[.slice y.1 y.2.1 y.2.2]) wa):=⟨(Fit.of hQ lQ).below hbel⟩
 have H1:=Ac h1;have H2:=Ac h2;have HLT:Aa (∀g∈([(w.heap.size,.cells #[.slice x.1 x.2.1 x.2.2,.slice y.1 y.2.1 y.2.2,.slice z.1 z.2.1 z.2.2,.slice ps ns cs] 118 (0,0)),(w.heap.size+1,.cells #[.slice none 0 0] 37 (0,0))]:List (Nat×Obj)),g.1<wa.heap.size):=⟨List.forall_mem_cons.2 ⟨by simp only;have:=HSZ.out;omega,List.forall_mem_cons.2 ⟨by simp only;have:=HSZ.out;omega,fun g hx=>by cases hx⟩⟩⟩
 obtain⟨ANS,hANS⟩:∃X,decide ((P-1)%Q=0)=X:=⟨_,rfl⟩
 have HANS:=Ac hANS;rw[hANS];clear hANS h1 h2 hX0 hX1 hR0 hb0 hba hbel hP hQ lP lQ;go_enter Tryz.func182,Tryz.ntmps182;go_wp2;refine Am (by kernel_rfl) (by kernel_rfl)
  [some (.pointer (some ⟨w.heap.size,0,none⟩)),some (.agg #[.slice x.1 x.2.1 x.2.2]),none,none,none,none,some (.bool true),none,none,some (.bool true)]
  [false,false,true,true,true,true,false,true,true,false] rfl
  (fun w1 w2=>Ap (w.heap.size) w1 w2)
  (fun D sp w'=>RG (w.heap.size) wa [(w.heap.size,.cells #[.slice x.1 x.2.1 x.2.2,.slice y.1 y.2.1 y.2.2,.slice z.1 z.2.1 z.2.2,.slice ps ns cs] 118 (0,0)),(w.heap.size+1,.cells #[.slice none 0 0] 37 (0,0))] w'/\Xv (D 7) (D 8) (sp 7) (wa.heap.size) (P-1) w')
  (fun i v w'=>match i with
   | 2=>Fit 1 1 v w'
   | 3=>Mt e (P-1) (.bool true) v w'
   | 4=>Mt e (P-1) (.bool true) v w'
   | 5=>Fit (e) (P-1) v w'
   | _=>True)
  ?_ ⟨RG.start HB.out.size (List.forall_mem_cons.2 ⟨HX.out.at_,List.forall_mem_cons.2 ⟨HR.out,fun x hx=>by cases hx⟩⟩),Xv.start (Av _)⟩ ?_ ?_
 .intro i v w1 w2 hf hb;split at hf
  .exact hf.keep hb
  .exact hf.keep hb
  .exact hf.keep hb
  .exact hf.keep hb
  .trivial
 .simp only[Bg,Nat.reduceAdd];refine⟨?_,?_,?_,?_,?_,?_,?_,?_,?_,?_,trivial⟩
  all_goals intro D sp w' hD hW hdp hg
  case refine_2=>
   have c0:=(Cr.cells ⟨hg.1.of List.mem_cons_self⟩).1
   with_reducible refine Ag ?_ ?_
   all_goals simp[Region.wanted,yielded,execOp,Act.eval,Act.put,go_sem,c0]
  case refine_3=>
   (with_reducible refine Ad (w1:=w') (f := 17) (args:=#[.int .u64 1]) ?_ ?_ ?_)
   .simp[Region.wanted,yielded,Act.put,go_sem]
   .simp[Act.eval,Act.put,go_sem]
   .refine(Ex w').mono ?_;rintro en w9 ⟨u,rfl,hu,hb⟩;exact⟨u,rfl,Ap.of hb hg.1.base,hu,hg.1.later hb,by simpa [upd]using hg.2.later hb⟩
  case refine_4=>
   have k2:Fit 1 1 (sp 2) w':=(hdp 2 (mq (by kernel_rfl))).2
   (with_reducible refine Ad (w1:=w') (f := 113) (args:=#[.agg #[.slice x.1 x.2.1 x.2.2],sp 2]) ?_ ?_ ?_)
   .simp[Region.wanted,yielded,Act.put,go_sem]
   .simp[Act.eval,Act.put,go_sem]
   .refine(Rt (HP.out.keep hg.1.keep) k2 (by omega) (by decide)).mono ?_;rintro en w9 ⟨_,rfl,⟨p,n,c,rfl,hu1,hu2⟩,hb⟩;rw[decide_eq_true H1.out];exact⟨_,rfl,Ap.of hb hg.1.base,⟨p,n,c,rfl,hu1,hu2⟩,hg.1.later hb,by simpa [upd]using hg.2.later hb⟩
  case refine_5=>
   have k3:Mt e (P-1) (.bool true) (sp 3) w':=(hdp 3 (mq (by kernel_rfl))).2
   (with_reducible refine Ai (w1:=w') (v:=sp 3) ?_ ?_ ?_)
   .simp[Region.wanted,yielded,Act.put,go_sem]
   .simp[execOp,Act.eval,Act.put,go_sem]
   .exact⟨Ap.same _ _,k3,hg.1,by simpa [upd]using hg.2⟩
  case refine_6=>
   have hx:∃p n c,sp 4=.tuple #[.agg #[.slice p n c],.bool true]/\Ah w' p n c (P-1)/\P-1<Al (e):=(hdp 4 (mq (by kernel_rfl))).2
   (with_reducible refine Bc hx fun p hx1=>Bc hx1 fun n hx2=>Bc hx2 fun c hx3=>?_)
   have h1:=hx3.1
   (with_reducible refine Ai (w1:=w') (v:=.agg #[.slice p n c]) ?_ ?_ ?_)
   .simp[Region.wanted,yielded,Act.put,go_sem]
   .simp[execOp,Act.eval,Act.put,go_sem,h1]
   .exact⟨Ap.same _ _,⟨p,n,c,rfl,hx3.2⟩,hg.1,by simpa [upd]using hg.2⟩
  case refine_7=>
   have hx:∃p n c,sp 4=.tuple #[.agg #[.slice p n c],.bool true]/\Ah w' p n c (P-1)/\P-1<Al (e):=(hdp 4 (mq (by kernel_rfl))).2
   (with_reducible refine Bc hx fun p hx1=>Bc hx1 fun n hx2=>Bc hx2 fun c hx3=>?_)
   have h1:=hx3.1
   with_reducible refine Ag ?_ ?_
   all_goals simp[Region.wanted,yielded,execOp,Act.eval,Act.put,go_sem,h1]
  case refine_8=>
   have h9:D 8=false:=hW 8 (mq (by kernel_rfl));rw[hD,h9]at hg
   (with_reducible refine Ai (w1:=w'.alloc (.cells #[.slice none 0 0] 37)) (v:=.pointer (some ⟨w'.heap.size,0,none⟩)) ?_ ?_ ?_)
   .simp[Region.wanted,yielded,Act.put,go_sem]
   .simp[execOp,go_sem]
   .have hb:Below w'.heap.size w' (w'.alloc (.cells #[.slice none 0 0] 37)):=By;refine⟨Ap.of hb hg.1.base,trivial,hg.1.later hb,?_⟩;have h8:=hg.2.made;simpa [upd,h9]using h8
  case refine_9=>
   have hx:∃p n c,sp 5=.agg #[.slice p n c]/\Ah w' p n c (P-1)/\P-1<Al (e):=(hdp 5 (mq (by kernel_rfl))).2
   (with_reducible refine Bc hx fun p hx1=>Bc hx1 fun n hx2=>Bc hx2 fun c hx3=>?_)
   have h1:=hx3.1;have h9:D 7=true:=(hdp 7 (mq (by kernel_rfl))).1;rw[h9]at hg
   have hp:=hg.2.put (hx3.2.1)
   (with_reducible refine Bc hp fun b hy0=>Bc hy0 fun q hy1=>Bc hy1 fun m hy2=>Bc hy2 fun k hy3=>?_)
   have h3:=hy3.1;have h6:=hy3.2.2.1.cell;have h7:=hy3.2.2.1.free
   (with_reducible refine Aq (w1:=w'.setCell ⟨b,0,none⟩ (.slice p n c)) ?_ ?_ ?_)
   .simp[Region.wanted,yielded,Act.put,go_sem]
   .simp[execOp,Act.eval,Act.put,go_sem,h1,h3,h6,h7]
   .refine⟨Ap.store hy3.2.2.1 (Eo HB.out.size hy3.2.1) _,trivial,hg.1.store_over hy3.2.2.1 HB.out.size hy3.2.1 HLT.out _,?_⟩;have h8:=hy3.2.2.2;simpa [upd,h9]using h8
  all_goals ((with_reducible refine Ag ?_ ?_);all_goals first|(simp only[Region.wanted];done)|simp[Region.wanted,yielded,execOp,Act.eval,Act.put,go_sem])
 .intro sp w2 hsp hg;obtain⟨hg1,_,hmk⟩:=hg;obtain⟨b4,e4,hb4,p4,n4,c4,hx4,hn4⟩:=hmk rfl;replace hn4:=hn4 rfl;have HK2:=Ac hg1;have HX4:=Ac hx4;have HN4:=Ac hn4;have HB4:=Ac hb4;have hx4lt:=hx4.lt;obtain⟨c0,cy,c2,c3⟩:=Cr.cells ⟨hg1.of List.mem_cons_self⟩;have cx4:=hx4.cell;have hLP:P-1<Al e:=by have:=HP.out.lim;omega
  have HLP:=Ac hLP;clear hsp hg1 hmk hx4 hn4 hb4 hLP;simp only[Ak,Nat.reduceAdd];rw[e4];clear e4;generalize sp 2=y2,sp 3=y3,sp 4=y4,sp 5=y5,sp 8=y8 at *
  go_simp
  go_wp2_with fail
  refine(Va (Fit.of HN4.out HLP.out) (HQ.out.keep HK2.out.keep) (by have:=H2.out;omega) (by omega) (by omega)).mono ?_;rintro en w3 ⟨_,rfl,⟨p6,n6,c6,p7,n7,c7,rfl,hq6,hq7⟩,hb3⟩;have HK3:=Ac (HK2.out.later hb3);have HQ6:=Ac hq6;have HQ7:=Ac hq7;have hs3:=HB4.out;have HS3:Aa (wa.heap.size<=w3.heap.size):=⟨by have:=hb3.size;have:=hx4lt;omega⟩
  have hb5:Below w3.heap.size w3 ((w3.alloc (.cells #[.slice p6 n6 c6] 37)).alloc (.cells #[.slice p7 n7 c7] 37)):=((Bd _ _).alloc (Av _) _).alloc (by simp) _;have hB6:=Ae.made w3 (.slice p6 n6 c6);have hB7:=Ae.made (w3.alloc (.cells #[.slice p6 n6 c6] 37)) (.slice p7 n7 c7);have hB6':=hB6.below (B:=(w3.alloc (.cells #[.slice p6 n6 c6] 37)).heap.size) ((Bd _ _).alloc (Av _) (.cells #[.slice p7 n7 c7] 37)) (by simp);rw[show (w3.alloc (.cells #[.slice p6 n6 c6] 37)).heap.size=w3.heap.size+1 by simp]at hB7
  obtain⟨w5,hw5⟩:∃w5,(w3.alloc (.cells #[.slice p6 n6 c6] 37)).alloc (.cells #[.slice p7 n7 c7] 37)=w5:=⟨_,rfl⟩
  rw[hw5]at hb5 hB6' hB7
  have HB6:=Ac hB6';have HB7:=Ac hB7;have HK5:=Ac (HK3.out.later hb5);have HQ6':=Ac (HQ6.out.below hb5);have HF7:Aa (Fit e ((P-1)%Q) (.agg #[.slice p7 n7 c7]) w5):=⟨Fit.of (HQ7.out.below hb5) (by have:=Nat.mod_le (P-1) Q;have:=HLP.out;omega)⟩
  have HLQ:Aa ((P-1)/Q<Al e):=⟨Nat.lt_of_le_of_lt (Nat.div_le_self _ _) HLP.out⟩
  have HNE:Aa (∀g∈([(w3.heap.size,.cells #[.slice p6 n6 c6] 37 (0,0)),(w3.heap.size+1,.cells #[.slice p7 n7 c7] 37 (0,0))]:List (Nat×Obj)),g.1≠w.heap.size+1):=⟨List.forall_mem_cons.2 ⟨by simp only;have:=HSZ.out;have:=HS3.out;omega,List.forall_mem_cons.2 ⟨by simp only;have:=HSZ.out;have:=HS3.out;omega,fun g hx=>by cases hx⟩⟩⟩
  have HB0:Aa (w.heap.size<=w.heap.size+1):=⟨by omega⟩
  have HR5:=Ac (HK5.out.of (List.mem_cons_of_mem _ List.mem_cons_self));clear hq6 hq7 hb3 c0 cy c2 c3 cx4 hs3 hb5 hB6 hB6' hB7 hx4lt;go_wp2;refine Am (by kernel_rfl) (by kernel_rfl)
   [some (.agg #[.slice p6 n6 c6]),some (.agg #[.slice p7 n7 c7]),none,none,some (.bool ANS)]
   [false,false,true,true,false] rfl
   (fun w1 w2=>Ap (w.heap.size) w1 w2)
   (fun D sp w'=>RG (w.heap.size) w5 [(w3.heap.size,.cells #[.slice p6 n6 c6] 37 (0,0)),(w3.heap.size+1,.cells #[.slice p7 n7 c7] 37 (0,0))] w'/\Yn (D 3) (w.heap.size+1) ((P-1)/Q) w')
   (fun i v w'=>match i with
    | 2=>v=.bool ANS
    | _=>True)
   ?_ ⟨RG.start HK5.out.base (List.forall_mem_cons.2 ⟨HB6.out,List.forall_mem_cons.2 ⟨HB7.out,fun g hx=>by cases hx⟩⟩),Yn.fresh (show Ae _ _ _ from HR5.out)⟩ ?_ ?_
  .intro i v w1 w2 hf hb;split at hf
   .exact hf
   .trivial
  .simp only[Bg,Nat.reduceAdd];refine⟨?_,?_,?_,?_,?_,trivial⟩
   all_goals intro D sp w' hD hW hdp hg
   case refine_1=>
    have c0:w'.cell? ⟨w3.heap.size,0,none⟩=some (.slice p6 n6 c6):=Ae.cell (hg.1.of List.mem_cons_self)
    with_reducible refine Ag ?_ ?_
    all_goals simp[Region.wanted,yielded,execOp,Act.eval,Act.put,go_sem,c0]
   case refine_2=>
    have c0:w'.cell? ⟨w3.heap.size+1,0,none⟩=some (.slice p7 n7 c7):=Ae.cell (hg.1.of (List.mem_cons_of_mem _ List.mem_cons_self))
    with_reducible refine Ag ?_ ?_
    all_goals simp[Region.wanted,yielded,execOp,Act.eval,Act.put,go_sem,c0]
   case refine_3=>
    (with_reducible refine Ad (w1:=w') (f := 21) (args:=#[.agg #[.slice p7 n7 c7]]) ?_ ?_ ?_)
    .simp[Region.wanted,yielded,Act.put,go_sem]
    .simp[Act.eval,Act.put,go_sem]
    .refine(Ti (HF7.out.keep hg.1.keep)).mono ?_;rintro en w9 ⟨_,rfl,rfl,hb⟩;rw[HANS.out];exact⟨_,rfl,Ap.of hb hg.1.base,rfl,hg.1.later hb,by simpa [upd]using hg.2.later hb⟩
   case refine_4=>
    have hp:=hg.2.put (hg.1.keep.nat _ _ _ _ HQ6'.out)
    (with_reducible refine Bc hp fun q hy1=>Bc hy1 fun m hy2=>Bc hy2 fun k hy3=>?_)
    have h6:=hy3.1.cell;have h7:=hy3.1.free
    (with_reducible refine Aq (w1:=w'.setCell ⟨w.heap.size+1,0,none⟩ (.slice p6 n6 c6)) ?_ ?_ ?_)
    .simp[Region.wanted,yielded,Act.put,go_sem]
    .simp[execOp,Act.eval,Act.put,go_sem,h6,h7]
    .refine⟨Ap.store hy3.1 HB0.out _,trivial,hg.1.store hy3.1 HB0.out HNE.out _,?_⟩;have h8:=hy3.2;simpa [upd]using h8
   case refine_5=>
    have k2:(sp 2)=.bool ANS:=(hdp 2 (mq (by kernel_rfl))).2
    with_reducible refine Ag ?_ ?_
    all_goals simp[Region.wanted,yielded,execOp,Act.eval,Act.put,go_sem,k2]
  .intro sp w7 hsp hg;obtain⟨hg1,pz,nz,cz,hz1,hz2⟩:=hg;have kz:=hz1.cell;have HZ:=Ac (hz2 rfl);have HE7:=Ac (HB.out.trans (HK5.out.keep.trans hg1.keep).bel);clear hsp hg1 hz1 hz2;simp only[Ak,Nat.reduceAdd];generalize sp 2=y2,sp 3=y3 at *
   go_simp
   go_wp2;exact bodyPost_ret (v:=.tuple #[.agg #[.slice pz nz cz],.bool ANS]) (by simp[results,Tryz.results182,go_sem,kz]) rfl ⟨_,rfl,Fit.of HZ.out HLQ.out,HE7.out⟩
end Go.Proofs.YtokhckjemidbpaaGreatDoor
