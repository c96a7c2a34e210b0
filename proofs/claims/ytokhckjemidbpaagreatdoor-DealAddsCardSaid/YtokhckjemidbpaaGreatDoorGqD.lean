/- Whether a group's parameters are right. -/
import Derived.Test.YtokhckjemidbpaaGreatDoorGqB
set_option maxRecDepth 1000000
set_option maxHeartbeats 16000000
set_option linter.all false
namespace Go.Proofs.YtokhckjemidbpaaGreatDoor
open Go Go.RowKit Go.Proofs.YtokhckjemidbpaaGreatDoor.Flow
theorem Fit.wide {e f N:Nat}{v:Value}{w:World}(h:Fit e N v w)(hf:e<=f):Fit f N v w:=h.tight (Da h.lim (Cc hf))
theorem Ring.wide {w:World}{r M e f:Nat}(h:Ring w r M e)(hf:e<=f)(h2:f<=10000):Ring w r M f:=⟨h.at_,h.two,Da h.lim (Cc hf),h2⟩
theorem Br {n:Nat}(w:World)(hn:n<18446744073709551616):Calls Tryz.prog 17 #[.int .u64 (n:Nat)] w fun en w'=>∃x,en=.returned x/\Fit 2 n x w'/\Below w.heap.size w w':=by
 refine(Cd n w hn).mono ?_;rintro en w' ⟨p,m,c,rfl,h,hb,_⟩;exact⟨_,rfl,Fit.of h (by unfold An;omega),hb⟩
theorem Uz {w:World}{e P Q:Nat}{x y z:Option Addr×Nat×Nat}{ps:Option Addr}{ns cs:Nat}(hP:Cw w x P)(lP:P<An e)(hQ:Cw w y Q)(lQ:Q<An e)(h1:1<=P)(h2:1<=Q)(he:e<=32) :
  Calls Tryz.prog 182 #[.agg #[.slice x.1 x.2.1 x.2.2,.slice y.1 y.2.1 y.2.2,.slice z.1 z.2.1 z.2.2,.slice ps ns cs]] w fun en w'=>∃u,en=.returned (.tuple #[u,.bool (decide ((P-1)%Q=0))])/\Fit e ((P-1)/Q) u w'/\Below w.heap.size w w':=by
 have hX0:=Dv.made 118 w (.slice x.1 x.2.1 x.2.2) (.slice y.1 y.2.1 y.2.2) (.slice z.1 z.2.1 z.2.2) (.slice ps ns cs);have hb0:Below w.heap.size w (w.alloc (.cells #[.slice x.1 x.2.1 x.2.2,.slice y.1 y.2.1 y.2.2,.slice z.1 z.2.1 z.2.2,.slice ps ns cs] 118)):=Bt;have hsz:(w.alloc (.cells #[.slice x.1 x.2.1 x.2.2,.slice y.1 y.2.1 y.2.2,.slice z.1 z.2.1 z.2.2,.slice ps ns cs] 118)).heap.size=w.heap.size+1:=by simp
 obtain⟨wz,hwz⟩:∃wz,w.alloc (.cells #[.slice x.1 x.2.1 x.2.2,.slice y.1 y.2.1 y.2.2,.slice z.1 z.2.1 z.2.2,.slice ps ns cs] 118)=wz:=⟨_,rfl⟩
 rw[hwz]at hX0 hb0 hsz
 have hR0:=Ae.made wz (.slice none 0 0);have hba:Below wz.heap.size wz (wz.alloc (.cells #[.slice none 0 0] 37)):=Bt;obtain⟨wa,hwa⟩:∃wa,wz.alloc (.cells #[.slice none 0 0] 37)=wa:=⟨_,rfl⟩
 rw[hwa]at hR0 hba
 have hX1:=hX0.below hba hX0.lt;rw[hsz]at hR0
 have hbel:=Af hb0 hba;have HX:=Ab hX1;have HR:=Ab hR0;have HB:=Ab hbel;have HSZ:Aa (w.heap.size+1+1<=wa.heap.size):=⟨hR0.lt⟩
 have HP:Aa (Fit e P (.agg #[.slice x.1 x.2.1 x.2.2]) wa):=⟨(Fit.of hP lP).below hbel⟩
 have HQ:Aa (Fit e Q (.agg #[.slice y.1 y.2.1 y.2.2]) wa):=⟨(Fit.of hQ lQ).below hbel⟩
 have H1:=Ab h1;have H2:=Ab h2;have HLT:Aa (∀g∈([(w.heap.size,.cells #[.slice x.1 x.2.1 x.2.2,.slice y.1 y.2.1 y.2.2,.slice z.1 z.2.1 z.2.2,.slice ps ns cs] 118 (0,0)),(w.heap.size+1,.cells #[.slice none 0 0] 37 (0,0))]:List (Nat×Obj)),g.1<wa.heap.size):=⟨List.forall_mem_cons.2 ⟨by simp only;have:=HSZ.out;omega,List.forall_mem_cons.2 ⟨by simp only;have:=HSZ.out;omega,fun g hx=>by cases hx⟩⟩⟩
 obtain⟨ANS,hANS⟩:∃X,decide ((P-1)%Q=0)=X:=⟨_,rfl⟩
 have HANS:=Ab hANS;rw[hANS];clear hANS h1 h2 hX0 hX1 hR0 hb0 hba hbel hP hQ lP lQ;go_enter Tryz.func182,Tryz.ntmps182;go_wp2;refine Aj (by kernel_rfl) (by kernel_rfl)
  [some (.pointer (some ⟨w.heap.size,0,none⟩)),some (.agg #[.slice x.1 x.2.1 x.2.2]),none,none,none,none,some (.bool true),none,none,some (.bool true)]
  [false,false,true,true,true,true,false,true,true,false] rfl
  (fun w1 w2=>Am (w.heap.size) w1 w2)
  (fun D sp w'=>RG (w.heap.size) wa [(w.heap.size,.cells #[.slice x.1 x.2.1 x.2.2,.slice y.1 y.2.1 y.2.2,.slice z.1 z.2.1 z.2.2,.slice ps ns cs] 118 (0,0)),(w.heap.size+1,.cells #[.slice none 0 0] 37 (0,0))] w'/\bI (D 7) (D 8) (sp 7) (wa.heap.size) (P-1) w')
  (fun i v w'=>match i with
   | 2=>Fit 1 1 v w'
   | 3=>Gm e (P-1) (.bool true) v w'
   | 4=>Gm e (P-1) (.bool true) v w'
   | 5=>Fit (e) (P-1) v w'
   | _=>True)
  ?_ ⟨RG.start HB.out.size (List.forall_mem_cons.2 ⟨HX.out.at_,List.forall_mem_cons.2 ⟨HR.out,fun x hx=>by cases hx⟩⟩),bI.start (Aw _)⟩ ?_ ?_
 .intro i v w1 w2 hf hb;split at hf
  .exact hf.keep hb
  .exact hf.keep hb
  .exact hf.keep hb
  .exact hf.keep hb
  .trivial
 .simp only[Az,Nat.reduceAdd];refine⟨?_,?_,?_,?_,?_,?_,?_,?_,?_,?_,trivial⟩
  all_goals intro D sp w' hD hW hdp hg
  case refine_2=>
   have c0:=(Dv.cells ⟨hg.1.of List.mem_cons_self⟩).1
   with_reducible refine Ad ?_ ?_
   all_goals simp[Region.wanted,yielded,execOp,Act.eval,Act.put,go_sem,c0]
  case refine_3=>
   (with_reducible refine Ac (w1:=w') (f := 17) (args:=#[.int .u64 1]) ?_ ?_ ?_)
   .simp[Region.wanted,yielded,Act.put,go_sem]
   .simp[Act.eval,Act.put,go_sem]
   .refine(Ea w').mono ?_;rintro en w9 ⟨u,rfl,hu,hb⟩;exact⟨u,rfl,Am.of hb hg.1.base,hu,hg.1.later hb,by simpa [upd]using hg.2.later hb⟩
  case refine_4=>
   have k2:Fit 1 1 (sp 2) w':=(hdp 2 (mq (by kernel_rfl))).2
   (with_reducible refine Ac (w1:=w') (f := 113) (args:=#[.agg #[.slice x.1 x.2.1 x.2.2],sp 2]) ?_ ?_ ?_)
   .simp[Region.wanted,yielded,Act.put,go_sem]
   .simp[Act.eval,Act.put,go_sem]
   .refine(Wi (HP.out.keep hg.1.keep) k2 (by omega) (by decide)).mono ?_;rintro en w9 ⟨_,rfl,⟨p,n,c,rfl,hu1,hu2⟩,hb⟩;rw[decide_eq_true H1.out];exact⟨_,rfl,Am.of hb hg.1.base,⟨p,n,c,rfl,hu1,hu2⟩,hg.1.later hb,by simpa [upd]using hg.2.later hb⟩
  case refine_5=>
   have k3:Gm e (P-1) (.bool true) (sp 3) w':=(hdp 3 (mq (by kernel_rfl))).2
   (with_reducible refine Ah (w1:=w') (v:=sp 3) ?_ ?_ ?_)
   .simp[Region.wanted,yielded,Act.put,go_sem]
   .simp[execOp,Act.eval,Act.put,go_sem]
   .exact⟨Am.same _ _,k3,hg.1,by simpa [upd]using hg.2⟩
  case refine_6=>
   have hx:∃p n c,sp 4=.tuple #[.agg #[.slice p n c],.bool true]/\Ag w' p n c (P-1)/\P-1<An (e):=(hdp 4 (mq (by kernel_rfl))).2
   (with_reducible refine Av hx fun p hx1=>Av hx1 fun n hx2=>Av hx2 fun c hx3=>?_)
   have h1:=hx3.1
   (with_reducible refine Ah (w1:=w') (v:=.agg #[.slice p n c]) ?_ ?_ ?_)
   .simp[Region.wanted,yielded,Act.put,go_sem]
   .simp[execOp,Act.eval,Act.put,go_sem,h1]
   .exact⟨Am.same _ _,⟨p,n,c,rfl,hx3.2⟩,hg.1,by simpa [upd]using hg.2⟩
  case refine_7=>
   have hx:∃p n c,sp 4=.tuple #[.agg #[.slice p n c],.bool true]/\Ag w' p n c (P-1)/\P-1<An (e):=(hdp 4 (mq (by kernel_rfl))).2
   (with_reducible refine Av hx fun p hx1=>Av hx1 fun n hx2=>Av hx2 fun c hx3=>?_)
   have h1:=hx3.1
   with_reducible refine Ad ?_ ?_
   all_goals simp[Region.wanted,yielded,execOp,Act.eval,Act.put,go_sem,h1]
  case refine_8=>
   have h9:D 8=false:=hW 8 (mq (by kernel_rfl));rw[hD,h9]at hg
   (with_reducible refine Ah (w1:=w'.alloc (.cells #[.slice none 0 0] 37)) (v:=.pointer (some ⟨w'.heap.size,0,none⟩)) ?_ ?_ ?_)
   .simp[Region.wanted,yielded,Act.put,go_sem]
   .simp[execOp,go_sem]
   .have hb:Below w'.heap.size w' (w'.alloc (.cells #[.slice none 0 0] 37)):=Bt;refine⟨Am.of hb hg.1.base,trivial,hg.1.later hb,?_⟩;have h8:=hg.2.made;simpa [upd,h9]using h8
  case refine_9=>
   have hx:∃p n c,sp 5=.agg #[.slice p n c]/\Ag w' p n c (P-1)/\P-1<An (e):=(hdp 5 (mq (by kernel_rfl))).2
   (with_reducible refine Av hx fun p hx1=>Av hx1 fun n hx2=>Av hx2 fun c hx3=>?_)
   have h1:=hx3.1;have h9:D 7=true:=(hdp 7 (mq (by kernel_rfl))).1;rw[h9]at hg
   have hp:=hg.2.put (hx3.2.1)
   (with_reducible refine Av hp fun b hy0=>Av hy0 fun q hy1=>Av hy1 fun m hy2=>Av hy2 fun k hy3=>?_)
   have h3:=hy3.1;have h6:=hy3.2.2.1.cell;have h7:=hy3.2.2.1.free
   (with_reducible refine Ap (w1:=w'.setCell ⟨b,0,none⟩ (.slice p n c)) ?_ ?_ ?_)
   .simp[Region.wanted,yielded,Act.put,go_sem]
   .simp[execOp,Act.eval,Act.put,go_sem,h1,h3,h6,h7]
   .refine⟨Am.store hy3.2.2.1 (Er HB.out.size hy3.2.1) _,trivial,hg.1.store_over hy3.2.2.1 HB.out.size hy3.2.1 HLT.out _,?_⟩;have h8:=hy3.2.2.2;simpa [upd,h9]using h8
  all_goals ((with_reducible refine Ad ?_ ?_);all_goals first|(simp only[Region.wanted];done)|simp[Region.wanted,yielded,execOp,Act.eval,Act.put,go_sem])
 .intro sp w2 hsp hg;obtain⟨hg1,_,hmk⟩:=hg;obtain⟨b4,e4,hb4,p4,n4,c4,hx4,hn4⟩:=hmk rfl;replace hn4:=hn4 rfl;have HK2:=Ab hg1;have HX4:=Ab hx4;have HN4:=Ab hn4;have HB4:=Ab hb4;have hx4lt:=hx4.lt;obtain⟨c0,cy,c2,c3⟩:=Dv.cells ⟨hg1.of List.mem_cons_self⟩;have cx4:=hx4.cell;have hLP:P-1<An e:=by have:=HP.out.lim;omega
  have HLP:=Ab hLP;clear hsp hg1 hmk hx4 hn4 hb4 hLP;simp only[Al,Nat.reduceAdd];rw[e4];clear e4;generalize sp 2=y2,sp 3=y3,sp 4=y4,sp 5=y5,sp 8=y8 at *
  go_simp
  go_wp2_with fail
  refine(Su (Fit.of HN4.out HLP.out) (HQ.out.keep HK2.out.keep) (by have:=H2.out;omega) (by omega) (by omega)).mono ?_;rintro en w3 ⟨_,rfl,⟨p6,n6,c6,p7,n7,c7,rfl,hq6,hq7⟩,hb3⟩;have HK3:=Ab (HK2.out.later hb3);have HQ6:=Ab hq6;have HQ7:=Ab hq7;have hs3:=HB4.out;have HS3:Aa (wa.heap.size<=w3.heap.size):=⟨by have:=hb3.size;have:=hx4lt;omega⟩
  have hb5:Below w3.heap.size w3 ((w3.alloc (.cells #[.slice p6 n6 c6] 37)).alloc (.cells #[.slice p7 n7 c7] 37)):=((Ba _ _).alloc (Aw _) _).alloc (by simp) _;have hB6:=Ae.made w3 (.slice p6 n6 c6);have hB7:=Ae.made (w3.alloc (.cells #[.slice p6 n6 c6] 37)) (.slice p7 n7 c7);have hB6':=hB6.below (B:=(w3.alloc (.cells #[.slice p6 n6 c6] 37)).heap.size) ((Ba _ _).alloc (Aw _) (.cells #[.slice p7 n7 c7] 37)) (by simp);rw[show (w3.alloc (.cells #[.slice p6 n6 c6] 37)).heap.size=w3.heap.size+1 by simp]at hB7
  obtain⟨w5,hw5⟩:∃w5,(w3.alloc (.cells #[.slice p6 n6 c6] 37)).alloc (.cells #[.slice p7 n7 c7] 37)=w5:=⟨_,rfl⟩
  rw[hw5]at hb5 hB6' hB7
  have HB6:=Ab hB6';have HB7:=Ab hB7;have HK5:=Ab (HK3.out.later hb5);have HQ6':=Ab (HQ6.out.below hb5);have HF7:Aa (Fit e ((P-1)%Q) (.agg #[.slice p7 n7 c7]) w5):=⟨Fit.of (HQ7.out.below hb5) (by have:=Nat.mod_le (P-1) Q;have:=HLP.out;omega)⟩
  have HLQ:Aa ((P-1)/Q<An e):=⟨Nat.lt_of_le_of_lt (Nat.div_le_self _ _) HLP.out⟩
  have HNE:Aa (∀g∈([(w3.heap.size,.cells #[.slice p6 n6 c6] 37 (0,0)),(w3.heap.size+1,.cells #[.slice p7 n7 c7] 37 (0,0))]:List (Nat×Obj)),g.1≠w.heap.size+1):=⟨List.forall_mem_cons.2 ⟨by simp only;have:=HSZ.out;have:=HS3.out;omega,List.forall_mem_cons.2 ⟨by simp only;have:=HSZ.out;have:=HS3.out;omega,fun g hx=>by cases hx⟩⟩⟩
  have HB0:Aa (w.heap.size<=w.heap.size+1):=⟨by omega⟩
  have HR5:=Ab (HK5.out.of (List.mem_cons_of_mem _ List.mem_cons_self));clear hq6 hq7 hb3 c0 cy c2 c3 cx4 hs3 hb5 hB6 hB6' hB7 hx4lt;go_wp2;refine Aj (by kernel_rfl) (by kernel_rfl)
   [some (.agg #[.slice p6 n6 c6]),some (.agg #[.slice p7 n7 c7]),none,none,some (.bool ANS)]
   [false,false,true,true,false] rfl
   (fun w1 w2=>Am (w.heap.size) w1 w2)
   (fun D sp w'=>RG (w.heap.size) w5 [(w3.heap.size,.cells #[.slice p6 n6 c6] 37 (0,0)),(w3.heap.size+1,.cells #[.slice p7 n7 c7] 37 (0,0))] w'/\Ya (D 3) (w.heap.size+1) ((P-1)/Q) w')
   (fun i v w'=>match i with
    | 2=>v=.bool ANS
    | _=>True)
   ?_ ⟨RG.start HK5.out.base (List.forall_mem_cons.2 ⟨HB6.out,List.forall_mem_cons.2 ⟨HB7.out,fun g hx=>by cases hx⟩⟩),Ya.fresh (show Ae _ _ _ from HR5.out)⟩ ?_ ?_
  .intro i v w1 w2 hf hb;split at hf
   .exact hf
   .trivial
  .simp only[Az,Nat.reduceAdd];refine⟨?_,?_,?_,?_,?_,trivial⟩
   all_goals intro D sp w' hD hW hdp hg
   case refine_1=>
    have c0:w'.cell? ⟨w3.heap.size,0,none⟩=some (.slice p6 n6 c6):=Ae.cell (hg.1.of List.mem_cons_self)
    with_reducible refine Ad ?_ ?_
    all_goals simp[Region.wanted,yielded,execOp,Act.eval,Act.put,go_sem,c0]
   case refine_2=>
    have c0:w'.cell? ⟨w3.heap.size+1,0,none⟩=some (.slice p7 n7 c7):=Ae.cell (hg.1.of (List.mem_cons_of_mem _ List.mem_cons_self))
    with_reducible refine Ad ?_ ?_
    all_goals simp[Region.wanted,yielded,execOp,Act.eval,Act.put,go_sem,c0]
   case refine_3=>
    (with_reducible refine Ac (w1:=w') (f := 21) (args:=#[.agg #[.slice p7 n7 c7]]) ?_ ?_ ?_)
    .simp[Region.wanted,yielded,Act.put,go_sem]
    .simp[Act.eval,Act.put,go_sem]
    .refine(Yb (HF7.out.keep hg.1.keep)).mono ?_;rintro en w9 ⟨_,rfl,rfl,hb⟩;rw[HANS.out];exact⟨_,rfl,Am.of hb hg.1.base,rfl,hg.1.later hb,by simpa [upd]using hg.2.later hb⟩
   case refine_4=>
    have hp:=hg.2.put (hg.1.keep.nat _ _ _ _ HQ6'.out)
    (with_reducible refine Av hp fun q hy1=>Av hy1 fun m hy2=>Av hy2 fun k hy3=>?_)
    have h6:=hy3.1.cell;have h7:=hy3.1.free
    (with_reducible refine Ap (w1:=w'.setCell ⟨w.heap.size+1,0,none⟩ (.slice p6 n6 c6)) ?_ ?_ ?_)
    .simp[Region.wanted,yielded,Act.put,go_sem]
    .simp[execOp,Act.eval,Act.put,go_sem,h6,h7]
    .refine⟨Am.store hy3.1 HB0.out _,trivial,hg.1.store hy3.1 HB0.out HNE.out _,?_⟩;have h8:=hy3.2;simpa [upd]using h8
   case refine_5=>
    have k2:(sp 2)=.bool ANS:=(hdp 2 (mq (by kernel_rfl))).2
    with_reducible refine Ad ?_ ?_
    all_goals simp[Region.wanted,yielded,execOp,Act.eval,Act.put,go_sem,k2]
  .intro sp w7 hsp hg;obtain⟨hg1,pz,nz,cz,hz1,hz2⟩:=hg;have kz:=hz1.cell;have HZ:=Ab (hz2 rfl);have HE7:=Ab (HB.out.trans (HK5.out.keep.trans hg1.keep).bel);clear hsp hg1 hz1 hz2;simp only[Al,Nat.reduceAdd];generalize sp 2=y2,sp 3=y3 at *
   go_simp
   go_wp2;exact bodyPost_ret (v:=.tuple #[.agg #[.slice pz nz cz],.bool ANS]) (by simp[results,Tryz.results182,go_sem,kz]) rfl ⟨_,rfl,Fit.of HZ.out HLQ.out,HE7.out⟩
theorem Ga (w:World):Calls Tryz.prog 17 #[.int .u64 64] w fun en w'=>∃x,en=.returned x/\Fit 2 64 x w'/\Below w.heap.size w w':=Br (n:=64) w (by decide)
theorem Cw.keep' {w w':World}{B N:Nat}{x:Option Addr×Nat×Nat}(h:Cw w x N)(k:Am B w w'):Cw w' x N:=k.nat _ _ _ _ h
open Classical in
theorem fO {w:World}{e r f P Q G:Nat}{x y z:Option Addr×Nat×Nat}{ps:Option Addr}{ns cs:Nat}(hr:Ring w r P f)(hP0:Cw w x P)(lP:P<An e)(hQ0:Cw w y Q)(lQ:Q<An e)(hG0:Cw w z G)(lG:G<An e)(h1:1<=P)(h2:1<=Q)(he:e<=32)(hf:f<=33) :
  Calls Tryz.prog 127 #[.agg #[.slice x.1 x.2.1 x.2.2,.slice y.1 y.2.1 y.2.2,.slice z.1 z.2.1 z.2.2,.slice ps ns cs],.pointer (some ⟨r,0,none⟩)] w fun en w'=>en=.returned (.bool (decide (Td P Q G)))/\Below w.heap.size w w':=by
 have hX0:=Dv.made 118 w (.slice x.1 x.2.1 x.2.2) (.slice y.1 y.2.1 y.2.2) (.slice z.1 z.2.1 z.2.2) (.slice ps ns cs);have hbel:Below w.heap.size w (w.alloc (.cells #[.slice x.1 x.2.1 x.2.2,.slice y.1 y.2.1 y.2.2,.slice z.1 z.2.1 z.2.2,.slice ps ns cs] 118)):=Bt;obtain⟨wa,hwa⟩:∃wa,w.alloc (.cells #[.slice x.1 x.2.1 x.2.2,.slice y.1 y.2.1 y.2.2,.slice z.1 z.2.1 z.2.2,.slice ps ns cs] 118)=wa:=⟨_,rfl⟩
 rw[hwa]at hX0 hbel
 have HX:=Ab hX0;have HB:=Ab hbel;have hP:Cw wa x P:=Ag.below hP0 hbel;have hQ:Cw wa y Q:=Ag.below hQ0 hbel;have HP:Aa (Fit e P (.agg #[.slice x.1 x.2.1 x.2.2]) wa):=⟨Fit.of hP lP⟩
 have HQ:Aa (Fit e Q (.agg #[.slice y.1 y.2.1 y.2.2]) wa):=⟨Fit.of hQ lQ⟩
 have HG:Aa (Fit e G (.agg #[.slice z.1 z.2.1 z.2.2]) wa):=⟨(Fit.of hG0 lG).below hbel⟩
 have HR:=Ab (hr.below hbel);have HRL:Aa (r<w.heap.size):=⟨hr.at_.lt⟩
 have H1:=Ab h1;have H2:=Ab h2;obtain⟨ANS,hANS⟩:∃X,decide (Td P Q G)=X:=⟨_,rfl⟩
 have HANS:=Ab hANS;rw[hANS];obtain⟨Y1,hY⟩:∃X,decide (G^Q%P=1)=X:=⟨_,rfl⟩
 have HY:=Ab hY;obtain⟨K1,hK10⟩:∃K,Bm Q 64=K:=⟨_,rfl⟩
 obtain⟨K2,hK20⟩:∃K,Bm G 1=K:=⟨_,rfl⟩
 obtain⟨K3,hK30⟩:∃K,Bm G P=K:=⟨_,rfl⟩
 have HK1:=Ab hK10;have HK2:=Ab hK20;have HK3:=Ab hK30;have le0:∀a b:Nat,decide (Bm a b<=0)=decide (a<=b):=fun a b=>by
  rcases Nat.lt_trichotomy a b with h|h|h
  .rw[Eb h,decide_eq_true (show a<=b by omega)];decide
  .rw[h,Iu,decide_eq_true (Aw b)];decide
  .have:=Iv.2 h;rw[decide_eq_false (show ¬a<=b by omega),decide_eq_false (by omega)]
 have ge0:∀a b:Nat,decide (0<=Bm a b)=decide (b<=a):=fun a b=>by
  rcases Nat.lt_trichotomy a b with h|h|h
  .rw[Eb h,decide_eq_false (show ¬b<=a by omega)];decide
  .rw[h,Iu,decide_eq_true (Aw b)];decide
  .have:=Iv.2 h;rw[decide_eq_true (show b<=a by omega),decide_eq_true (by omega)]
 by_cases hq:Q<=64
 .have hK1:decide (K1<=0)=true:=by rw[<-hK10,le0];exact decide_eq_true hq
  have HA:Aa (ANS=false):=⟨by rw[<-hANS];exact decide_eq_false fun h=>by have:=h.2.1;omega⟩
  clear le0 ge0 hq hANS hY hK10 hK20 hK30 hX0 hbel hr hG0 hP0 hQ0 HK2 HK3 HY HANS h1 h2;go_enter Tryz.func127,Tryz.ntmps127;go_wp2;refine Aj (by kernel_rfl) (by kernel_rfl)
   [some (.pointer (some ⟨w.heap.size,1,none⟩)),some (.agg #[.slice y.1 y.2.1 y.2.2]),none,none,some (.bool true),some (.bool true),some (undef),some (undef),some (undef),some (undef),some (undef),some (.bool true),some (.bool true),some (undef),some (undef),some (undef),some (undef),some (undef),some (undef),some (.bool true)]
   [false,false,true,true,false,false,false,false,false,false,false,false,false,false,false,false,false,false,false,false] rfl
   (fun w1 w2=>Am (w.heap.size) w1 w2)
   (fun D sp w'=>RG (w.heap.size) wa [(w.heap.size,.cells #[.slice x.1 x.2.1 x.2.2,.slice y.1 y.2.1 y.2.2,.slice z.1 z.2.1 z.2.2,.slice ps ns cs] 118 (0,0))] w'/\True)
   (fun i v w'=>match i with
    | 2=>Fit 2 64 v w'
    | 3=>v=.int .i64 K1
    | _=>True)
   ?_ ⟨RG.start HB.out.size (List.forall_mem_cons.2 ⟨HX.out.at_,fun x hx=>by cases hx⟩),trivial⟩ ?_ ?_
  .intro i v w1 w2 hf hb;split at hf
   .exact hf.keep hb
   .exact hf
   .trivial
  .simp only[Az,Nat.reduceAdd];refine⟨?_,?_,?_,?_,?_,?_,?_,?_,?_,?_,?_,?_,?_,?_,?_,?_,?_,?_,?_,?_,trivial⟩
   all_goals intro D sp w' hD hW hdp hg
   case refine_2=>
    have c1:=(Dv.cells ⟨hg.1.of List.mem_cons_self⟩).2.1
    with_reducible refine Ad ?_ ?_
    all_goals simp[Region.wanted,yielded,execOp,Act.eval,Act.put,go_sem,c1]
   case refine_3=>
    (with_reducible refine Ac (w1:=w') (f := 17) (args:=#[.int .u64 64]) ?_ ?_ ?_)
    .simp[Region.wanted,yielded,Act.put,go_sem]
    .simp[Act.eval,Act.put,go_sem]
    .refine(Ga w').mono ?_;rintro en w9 ⟨u,rfl,hu,hb⟩;exact⟨u,rfl,Am.of hb hg.1.base,hu,hg.1.later hb,trivial⟩
   case refine_4=>
    have k2:Fit 2 64 (sp 2) w':=(hdp 2 (mq (by kernel_rfl))).2
    (with_reducible refine Ac (w1:=w') (f := 24) (args:=#[.agg #[.slice y.1 y.2.1 y.2.2],sp 2]) ?_ ?_ ?_)
    .simp[Region.wanted,yielded,Act.put,go_sem]
    .simp[Act.eval,Act.put,go_sem]
    .refine(Bf (HQ.out.keep hg.1.keep) k2 (by omega) (by decide) HK1.out).mono ?_;rintro en w9 ⟨u,rfl,rfl,hb⟩;exact⟨_,rfl,Am.of hb hg.1.base,rfl,hg.1.later hb,trivial⟩
   case refine_5=>
    have k3:(sp 3)=.int .i64 K1:=(hdp 3 (mq (by kernel_rfl))).2
    with_reducible refine Ad ?_ ?_
    all_goals simp[Region.wanted,yielded,execOp,Act.eval,Act.put,go_sem,k3,hK1]
   case refine_7|refine_8|refine_9|refine_10|refine_11|refine_14|refine_15|refine_16|refine_17|refine_18|refine_19=>
    (with_reducible refine Fh ?_ ?_)
    ·(simp[Region.wanted,yielded,Act.put,go_sem]<;>exact fun h=>by cases h)
    .exact⟨rfl,rfl⟩
   all_goals ((with_reducible refine Ad ?_ ?_);all_goals first|(simp only[Region.wanted];done)|simp[Region.wanted,yielded,execOp,Act.eval,Act.put,go_sem])
  .intro sp w2 hsp hg;have HE7:=Ab (HB.out.trans hg.1.keep.bel);clear hsp hg;simp only[Al,Nat.reduceAdd];generalize sp 2=y2,sp 3=y3 at *
   go_simp
   go_wp2;go_ret;exact⟨by rw[HA.out];rfl,HE7.out⟩
 have hK1:decide (K1<=0)=false:=by rw[<-hK10,le0];exact decide_eq_false hq
 by_cases hg:G<=1
 .have hK2:decide (K2<=0)=true:=by rw[<-hK20,le0];exact decide_eq_true hg
  have HA:Aa (ANS=false):=⟨by rw[<-hANS];exact decide_eq_false fun h=>by have:=h.2.2.1;omega⟩
  clear le0 ge0 hq hg hANS hY hK10 hK20 hK30 hX0 hbel hr hG0 hP0 hQ0 HK3 HY HANS h1 h2;go_enter Tryz.func127,Tryz.ntmps127;go_wp2;refine Aj (by kernel_rfl) (by kernel_rfl)
   [some (.pointer (some ⟨w.heap.size,1,none⟩)),some (.agg #[.slice y.1 y.2.1 y.2.2]),none,none,some (.bool false),some (.bool false),some (.pointer (some ⟨w.heap.size,2,none⟩)),some (.agg #[.slice z.1 z.2.1 z.2.2]),none,none,some (.bool true),some (.bool true),some (.bool true),some (undef),some (undef),some (undef),some (undef),some (undef),some (undef),some (.bool true)]
   [false,false,true,true,false,false,false,false,true,true,false,false,false,false,false,false,false,false,false,false] rfl
   (fun w1 w2=>Am (w.heap.size) w1 w2)
   (fun D sp w'=>RG (w.heap.size) wa [(w.heap.size,.cells #[.slice x.1 x.2.1 x.2.2,.slice y.1 y.2.1 y.2.2,.slice z.1 z.2.1 z.2.2,.slice ps ns cs] 118 (0,0))] w'/\True)
   (fun i v w'=>match i with
    | 2=>Fit 2 64 v w'
    | 3=>v=.int .i64 K1
    | 8=>Fit 1 1 v w'
    | 9=>v=.int .i64 K2
    | _=>True)
   ?_ ⟨RG.start HB.out.size (List.forall_mem_cons.2 ⟨HX.out.at_,fun x hx=>by cases hx⟩),trivial⟩ ?_ ?_
  .intro i v w1 w2 hf hb;split at hf
   .exact hf.keep hb
   .exact hf
   .exact hf.keep hb
   .exact hf
   .trivial
  .simp only[Az,Nat.reduceAdd];refine⟨?_,?_,?_,?_,?_,?_,?_,?_,?_,?_,?_,?_,?_,?_,?_,?_,?_,?_,?_,?_,trivial⟩
   all_goals intro D sp w' hD hW hdp hg
   case refine_2=>
    have c1:=(Dv.cells ⟨hg.1.of List.mem_cons_self⟩).2.1
    with_reducible refine Ad ?_ ?_
    all_goals simp[Region.wanted,yielded,execOp,Act.eval,Act.put,go_sem,c1]
   case refine_3=>
    (with_reducible refine Ac (w1:=w') (f := 17) (args:=#[.int .u64 64]) ?_ ?_ ?_)
    .simp[Region.wanted,yielded,Act.put,go_sem]
    .simp[Act.eval,Act.put,go_sem]
    .refine(Ga w').mono ?_;rintro en w9 ⟨u,rfl,hu,hb⟩;exact⟨u,rfl,Am.of hb hg.1.base,hu,hg.1.later hb,trivial⟩
   case refine_4=>
    have k2:Fit 2 64 (sp 2) w':=(hdp 2 (mq (by kernel_rfl))).2
    (with_reducible refine Ac (w1:=w') (f := 24) (args:=#[.agg #[.slice y.1 y.2.1 y.2.2],sp 2]) ?_ ?_ ?_)
    .simp[Region.wanted,yielded,Act.put,go_sem]
    .simp[Act.eval,Act.put,go_sem]
    .refine(Bf (HQ.out.keep hg.1.keep) k2 (by omega) (by decide) HK1.out).mono ?_;rintro en w9 ⟨u,rfl,rfl,hb⟩;exact⟨_,rfl,Am.of hb hg.1.base,rfl,hg.1.later hb,trivial⟩
   case refine_5=>
    have k3:(sp 3)=.int .i64 K1:=(hdp 3 (mq (by kernel_rfl))).2
    with_reducible refine Ad ?_ ?_
    all_goals simp[Region.wanted,yielded,execOp,Act.eval,Act.put,go_sem,k3,hK1]
   case refine_8=>
    have c2:=(Dv.cells ⟨hg.1.of List.mem_cons_self⟩).2.2.1
    with_reducible refine Ad ?_ ?_
    all_goals simp[Region.wanted,yielded,execOp,Act.eval,Act.put,go_sem,c2]
   case refine_9=>
    (with_reducible refine Ac (w1:=w') (f := 17) (args:=#[.int .u64 1]) ?_ ?_ ?_)
    .simp[Region.wanted,yielded,Act.put,go_sem]
    .simp[Act.eval,Act.put,go_sem]
    .refine(Ea w').mono ?_;rintro en w9 ⟨u,rfl,hu,hb⟩;exact⟨u,rfl,Am.of hb hg.1.base,hu,hg.1.later hb,trivial⟩
   case refine_10=>
    have k8:Fit 1 1 (sp 8) w':=(hdp 8 (mq (by kernel_rfl))).2
    (with_reducible refine Ac (w1:=w') (f := 24) (args:=#[.agg #[.slice z.1 z.2.1 z.2.2],sp 8]) ?_ ?_ ?_)
    .simp[Region.wanted,yielded,Act.put,go_sem]
    .simp[Act.eval,Act.put,go_sem]
    .refine(Bf (HG.out.keep hg.1.keep) k8 (by omega) (by decide) HK2.out).mono ?_;rintro en w9 ⟨u,rfl,rfl,hb⟩;exact⟨_,rfl,Am.of hb hg.1.base,rfl,hg.1.later hb,trivial⟩
   case refine_11=>
    have k9:(sp 9)=.int .i64 K2:=(hdp 9 (mq (by kernel_rfl))).2
    with_reducible refine Ad ?_ ?_
    all_goals simp[Region.wanted,yielded,execOp,Act.eval,Act.put,go_sem,k9,hK2]
   case refine_14|refine_15|refine_16|refine_17|refine_18|refine_19=>
    (with_reducible refine Fh ?_ ?_)
    ·(simp[Region.wanted,yielded,Act.put,go_sem]<;>exact fun h=>by cases h)
    .exact⟨rfl,rfl⟩
   all_goals ((with_reducible refine Ad ?_ ?_);all_goals first|(simp only[Region.wanted];done)|simp[Region.wanted,yielded,execOp,Act.eval,Act.put,go_sem])
  .intro sp w2 hsp hg;have HE7:=Ab (HB.out.trans hg.1.keep.bel);clear hsp hg;simp only[Al,Nat.reduceAdd];generalize sp 2=y2,sp 3=y3,sp 8=y8,sp 9=y9 at *
   go_simp
   go_wp2;go_ret;exact⟨by rw[HA.out];rfl,HE7.out⟩
 have hK2:decide (K2<=0)=false:=by rw[<-hK20,le0];exact decide_eq_false hg
 by_cases hp:P<=G
 .have hK3:decide (0<=K3)=true:=by rw[<-hK30,ge0];exact decide_eq_true hp
  have HA:Aa (ANS=false):=⟨by rw[<-hANS];exact decide_eq_false fun h=>by have:=h.2.2.2.1;omega⟩
  clear le0 ge0 hq hg hp hANS hY hK10 hK20 hK30 hX0 hbel hr hG0 hP0 hQ0 HY HANS h1 h2;go_enter Tryz.func127,Tryz.ntmps127;go_wp2;refine Aj (by kernel_rfl) (by kernel_rfl)
   [some (.pointer (some ⟨w.heap.size,1,none⟩)),some (.agg #[.slice y.1 y.2.1 y.2.2]),none,none,some (.bool false),some (.bool false),some (.pointer (some ⟨w.heap.size,2,none⟩)),some (.agg #[.slice z.1 z.2.1 z.2.2]),none,none,some (.bool false),some (.bool false),some (.bool false),some (.pointer (some ⟨w.heap.size,2,none⟩)),some (.agg #[.slice z.1 z.2.1 z.2.2]),some (.pointer (some ⟨w.heap.size,0,none⟩)),some (.agg #[.slice x.1 x.2.1 x.2.2]),none,some (.bool true),some (.bool true)]
   [false,false,true,true,false,false,false,false,true,true,false,false,false,false,false,false,false,true,false,false] rfl
   (fun w1 w2=>Am (w.heap.size) w1 w2)
   (fun D sp w'=>RG (w.heap.size) wa [(w.heap.size,.cells #[.slice x.1 x.2.1 x.2.2,.slice y.1 y.2.1 y.2.2,.slice z.1 z.2.1 z.2.2,.slice ps ns cs] 118 (0,0))] w'/\True)
   (fun i v w'=>match i with
    | 2=>Fit 2 64 v w'
    | 3=>v=.int .i64 K1
    | 8=>Fit 1 1 v w'
    | 9=>v=.int .i64 K2
    | 17=>v=.int .i64 K3
    | _=>True)
   ?_ ⟨RG.start HB.out.size (List.forall_mem_cons.2 ⟨HX.out.at_,fun x hx=>by cases hx⟩),trivial⟩ ?_ ?_
  .intro i v w1 w2 hf hb;split at hf
   .exact hf.keep hb
   .exact hf
   .exact hf.keep hb
   .exact hf
   .exact hf
   .trivial
  .simp only[Az,Nat.reduceAdd];refine⟨?_,?_,?_,?_,?_,?_,?_,?_,?_,?_,?_,?_,?_,?_,?_,?_,?_,?_,?_,?_,trivial⟩
   all_goals intro D sp w' hD hW hdp hg
   case refine_2=>
    have c1:=(Dv.cells ⟨hg.1.of List.mem_cons_self⟩).2.1
    with_reducible refine Ad ?_ ?_
    all_goals simp[Region.wanted,yielded,execOp,Act.eval,Act.put,go_sem,c1]
   case refine_3=>
    (with_reducible refine Ac (w1:=w') (f := 17) (args:=#[.int .u64 64]) ?_ ?_ ?_)
    .simp[Region.wanted,yielded,Act.put,go_sem]
    .simp[Act.eval,Act.put,go_sem]
    .refine(Ga w').mono ?_;rintro en w9 ⟨u,rfl,hu,hb⟩;exact⟨u,rfl,Am.of hb hg.1.base,hu,hg.1.later hb,trivial⟩
   case refine_4=>
    have k2:Fit 2 64 (sp 2) w':=(hdp 2 (mq (by kernel_rfl))).2
    (with_reducible refine Ac (w1:=w') (f := 24) (args:=#[.agg #[.slice y.1 y.2.1 y.2.2],sp 2]) ?_ ?_ ?_)
    .simp[Region.wanted,yielded,Act.put,go_sem]
    .simp[Act.eval,Act.put,go_sem]
    .refine(Bf (HQ.out.keep hg.1.keep) k2 (by omega) (by decide) HK1.out).mono ?_;rintro en w9 ⟨u,rfl,rfl,hb⟩;exact⟨_,rfl,Am.of hb hg.1.base,rfl,hg.1.later hb,trivial⟩
   case refine_5=>
    have k3:(sp 3)=.int .i64 K1:=(hdp 3 (mq (by kernel_rfl))).2
    with_reducible refine Ad ?_ ?_
    all_goals simp[Region.wanted,yielded,execOp,Act.eval,Act.put,go_sem,k3,hK1]
   case refine_8|refine_15=>
    have c2:=(Dv.cells ⟨hg.1.of List.mem_cons_self⟩).2.2.1
    with_reducible refine Ad ?_ ?_
    all_goals simp[Region.wanted,yielded,execOp,Act.eval,Act.put,go_sem,c2]
   case refine_9=>
    (with_reducible refine Ac (w1:=w') (f := 17) (args:=#[.int .u64 1]) ?_ ?_ ?_)
    .simp[Region.wanted,yielded,Act.put,go_sem]
    .simp[Act.eval,Act.put,go_sem]
    .refine(Ea w').mono ?_;rintro en w9 ⟨u,rfl,hu,hb⟩;exact⟨u,rfl,Am.of hb hg.1.base,hu,hg.1.later hb,trivial⟩
   case refine_10=>
    have k8:Fit 1 1 (sp 8) w':=(hdp 8 (mq (by kernel_rfl))).2
    (with_reducible refine Ac (w1:=w') (f := 24) (args:=#[.agg #[.slice z.1 z.2.1 z.2.2],sp 8]) ?_ ?_ ?_)
    .simp[Region.wanted,yielded,Act.put,go_sem]
    .simp[Act.eval,Act.put,go_sem]
    .refine(Bf (HG.out.keep hg.1.keep) k8 (by omega) (by decide) HK2.out).mono ?_;rintro en w9 ⟨u,rfl,rfl,hb⟩;exact⟨_,rfl,Am.of hb hg.1.base,rfl,hg.1.later hb,trivial⟩
   case refine_11=>
    have k9:(sp 9)=.int .i64 K2:=(hdp 9 (mq (by kernel_rfl))).2
    with_reducible refine Ad ?_ ?_
    all_goals simp[Region.wanted,yielded,execOp,Act.eval,Act.put,go_sem,k9,hK2]
   case refine_17=>
    have c0:=(Dv.cells ⟨hg.1.of List.mem_cons_self⟩).1
    with_reducible refine Ad ?_ ?_
    all_goals simp[Region.wanted,yielded,execOp,Act.eval,Act.put,go_sem,c0]
   case refine_18=>
    (with_reducible refine Ac (w1:=w') (f := 24) (args:=#[.agg #[.slice z.1 z.2.1 z.2.2],.agg #[.slice x.1 x.2.1 x.2.2]]) ?_ ?_ ?_)
    .simp[Region.wanted,yielded,Act.put,go_sem]
    .simp[Act.eval,Act.put,go_sem]
    .refine(Bf (HG.out.keep hg.1.keep) (HP.out.keep hg.1.keep) (by omega) (by omega) HK3.out).mono ?_;rintro en w9 ⟨u,rfl,rfl,hb⟩;exact⟨_,rfl,Am.of hb hg.1.base,rfl,hg.1.later hb,trivial⟩
   case refine_19=>
    have k17:(sp 17)=.int .i64 K3:=(hdp 17 (mq (by kernel_rfl))).2
    with_reducible refine Ad ?_ ?_
    all_goals simp[Region.wanted,yielded,execOp,Act.eval,Act.put,go_sem,k17,hK3]
   all_goals ((with_reducible refine Ad ?_ ?_);all_goals first|(simp only[Region.wanted];done)|simp[Region.wanted,yielded,execOp,Act.eval,Act.put,go_sem])
  .intro sp w2 hsp hg;have HE7:=Ab (HB.out.trans hg.1.keep.bel);clear hsp hg;simp only[Al,Nat.reduceAdd];generalize sp 2=y2,sp 3=y3,sp 8=y8,sp 9=y9,sp 17=y17 at *
   go_simp
   go_wp2;go_ret;exact⟨by rw[HA.out];rfl,HE7.out⟩
 have hK3:decide (0<=K3)=false:=by rw[<-hK30,ge0];exact decide_eq_false hp
 have HC:Aa (64<Q/\1<G/\G<P):=⟨by omega⟩
 clear le0 ge0 hq hg hp hANS hY hK10 hK20 hK30 hX0 hbel hr hG0 hP0 hQ0 h1 h2;go_enter Tryz.func127,Tryz.ntmps127;go_wp2;refine Aj (by kernel_rfl) (by kernel_rfl)
  [some (.pointer (some ⟨w.heap.size,1,none⟩)),some (.agg #[.slice y.1 y.2.1 y.2.2]),none,none,some (.bool false),some (.bool false),some (.pointer (some ⟨w.heap.size,2,none⟩)),some (.agg #[.slice z.1 z.2.1 z.2.2]),none,none,some (.bool false),some (.bool false),some (.bool false),some (.pointer (some ⟨w.heap.size,2,none⟩)),some (.agg #[.slice z.1 z.2.1 z.2.2]),some (.pointer (some ⟨w.heap.size,0,none⟩)),some (.agg #[.slice x.1 x.2.1 x.2.2]),none,some (.bool false),some (.bool false)]
  [false,false,true,true,false,false,false,false,true,true,false,false,false,false,false,false,false,true,false,false] rfl
  (fun w1 w2=>Am (w.heap.size) w1 w2)
  (fun D sp w'=>RG (w.heap.size) wa [(w.heap.size,.cells #[.slice x.1 x.2.1 x.2.2,.slice y.1 y.2.1 y.2.2,.slice z.1 z.2.1 z.2.2,.slice ps ns cs] 118 (0,0))] w'/\True)
  (fun i v w'=>match i with
   | 2=>Fit 2 64 v w'
   | 3=>v=.int .i64 K1
   | 8=>Fit 1 1 v w'
   | 9=>v=.int .i64 K2
   | 17=>v=.int .i64 K3
   | _=>True)
  ?_ ⟨RG.start HB.out.size (List.forall_mem_cons.2 ⟨HX.out.at_,fun x hx=>by cases hx⟩),trivial⟩ ?_ ?_
 .intro i v w1 w2 hf hb;split at hf
  .exact hf.keep hb
  .exact hf
  .exact hf.keep hb
  .exact hf
  .exact hf
  .trivial
 .simp only[Az,Nat.reduceAdd];refine⟨?_,?_,?_,?_,?_,?_,?_,?_,?_,?_,?_,?_,?_,?_,?_,?_,?_,?_,?_,?_,trivial⟩
  all_goals intro D sp w' hD hW hdp hg
  case refine_2=>
   have c1:=(Dv.cells ⟨hg.1.of List.mem_cons_self⟩).2.1
   with_reducible refine Ad ?_ ?_
   all_goals simp[Region.wanted,yielded,execOp,Act.eval,Act.put,go_sem,c1]
  case refine_3=>
   (with_reducible refine Ac (w1:=w') (f := 17) (args:=#[.int .u64 64]) ?_ ?_ ?_)
   .simp[Region.wanted,yielded,Act.put,go_sem]
   .simp[Act.eval,Act.put,go_sem]
   .refine(Ga w').mono ?_;rintro en w9 ⟨u,rfl,hu,hb⟩;exact⟨u,rfl,Am.of hb hg.1.base,hu,hg.1.later hb,trivial⟩
  case refine_4=>
   have k2:Fit 2 64 (sp 2) w':=(hdp 2 (mq (by kernel_rfl))).2
   (with_reducible refine Ac (w1:=w') (f := 24) (args:=#[.agg #[.slice y.1 y.2.1 y.2.2],sp 2]) ?_ ?_ ?_)
   .simp[Region.wanted,yielded,Act.put,go_sem]
   .simp[Act.eval,Act.put,go_sem]
   .refine(Bf (HQ.out.keep hg.1.keep) k2 (by omega) (by decide) HK1.out).mono ?_;rintro en w9 ⟨u,rfl,rfl,hb⟩;exact⟨_,rfl,Am.of hb hg.1.base,rfl,hg.1.later hb,trivial⟩
  case refine_5=>
   have k3:(sp 3)=.int .i64 K1:=(hdp 3 (mq (by kernel_rfl))).2
   with_reducible refine Ad ?_ ?_
   all_goals simp[Region.wanted,yielded,execOp,Act.eval,Act.put,go_sem,k3,hK1]
  case refine_8|refine_15=>
   have c2:=(Dv.cells ⟨hg.1.of List.mem_cons_self⟩).2.2.1
   with_reducible refine Ad ?_ ?_
   all_goals simp[Region.wanted,yielded,execOp,Act.eval,Act.put,go_sem,c2]
  case refine_9=>
   (with_reducible refine Ac (w1:=w') (f := 17) (args:=#[.int .u64 1]) ?_ ?_ ?_)
   .simp[Region.wanted,yielded,Act.put,go_sem]
   .simp[Act.eval,Act.put,go_sem]
   .refine(Ea w').mono ?_;rintro en w9 ⟨u,rfl,hu,hb⟩;exact⟨u,rfl,Am.of hb hg.1.base,hu,hg.1.later hb,trivial⟩
  case refine_10=>
   have k8:Fit 1 1 (sp 8) w':=(hdp 8 (mq (by kernel_rfl))).2
   (with_reducible refine Ac (w1:=w') (f := 24) (args:=#[.agg #[.slice z.1 z.2.1 z.2.2],sp 8]) ?_ ?_ ?_)
   .simp[Region.wanted,yielded,Act.put,go_sem]
   .simp[Act.eval,Act.put,go_sem]
   .refine(Bf (HG.out.keep hg.1.keep) k8 (by omega) (by decide) HK2.out).mono ?_;rintro en w9 ⟨u,rfl,rfl,hb⟩;exact⟨_,rfl,Am.of hb hg.1.base,rfl,hg.1.later hb,trivial⟩
  case refine_11=>
   have k9:(sp 9)=.int .i64 K2:=(hdp 9 (mq (by kernel_rfl))).2
   with_reducible refine Ad ?_ ?_
   all_goals simp[Region.wanted,yielded,execOp,Act.eval,Act.put,go_sem,k9,hK2]
  case refine_17=>
   have c0:=(Dv.cells ⟨hg.1.of List.mem_cons_self⟩).1
   with_reducible refine Ad ?_ ?_
   all_goals simp[Region.wanted,yielded,execOp,Act.eval,Act.put,go_sem,c0]
  case refine_18=>
   (with_reducible refine Ac (w1:=w') (f := 24) (args:=#[.agg #[.slice z.1 z.2.1 z.2.2],.agg #[.slice x.1 x.2.1 x.2.2]]) ?_ ?_ ?_)
   .simp[Region.wanted,yielded,Act.put,go_sem]
   .simp[Act.eval,Act.put,go_sem]
   .refine(Bf (HG.out.keep hg.1.keep) (HP.out.keep hg.1.keep) (by omega) (by omega) HK3.out).mono ?_;rintro en w9 ⟨u,rfl,rfl,hb⟩;exact⟨_,rfl,Am.of hb hg.1.base,rfl,hg.1.later hb,trivial⟩
  case refine_19=>
   have k17:(sp 17)=.int .i64 K3:=(hdp 17 (mq (by kernel_rfl))).2
   with_reducible refine Ad ?_ ?_
   all_goals simp[Region.wanted,yielded,execOp,Act.eval,Act.put,go_sem,k17,hK3]
  all_goals ((with_reducible refine Ad ?_ ?_);all_goals first|(simp only[Region.wanted];done)|simp[Region.wanted,yielded,execOp,Act.eval,Act.put,go_sem])
 .intro sp w2 hsp hg;have HK2:=Ab hg.1;obtain⟨c0,cy,c2,c3⟩:=Dv.cells ⟨hg.1.of List.mem_cons_self⟩;clear hsp hg hK1 hK2 hK3;simp only[Al,Nat.reduceAdd];generalize sp 2=y2,sp 3=y3,sp 8=y8,sp 9=y9,sp 17=y17 at *
  go_simp
  go_wp2_with fail
  refine(Uz (x:=x) (y:=y) (z:=z) (hP.keep' HK2.out.keep) lP (hQ.keep' HK2.out.keep) lQ H1.out H2.out he).mono ?_;rintro en w3 ⟨_,rfl,⟨p5,n5,c5,rfl,hn5,_⟩,hb3⟩;have hb4:Below w3.heap.size w3 (w3.alloc (.cells #[.slice p5 n5 c5] 37)):=Bt;obtain⟨w4,hw4⟩:∃w4,w3.alloc (.cells #[.slice p5 n5 c5] 37)=w4:=⟨_,rfl⟩
  rw[hw4]at hb4
  have HK4:=Ab (HK2.out.later (Af hb3 hb4));obtain⟨d0,dy,d2,d3⟩:=Dv.cells ⟨HK4.out.of List.mem_cons_self⟩;have HE4:=Ab (HB.out.trans HK4.out.keep.bel);clear hb3 hb4 hn5 c0 cy c2 c3
  by_cases hm:(P-1)%Q=0
  .have HM:Aa (ANS=Y1):=⟨by
    rw[<-HANS.out,<-HY.out];exact decide_eq_decide.2 ⟨fun h=>h.2.2.2.2,fun h=>⟨hm,HC.out.1,HC.out.2.1,HC.out.2.2,h⟩⟩⟩
   rw[decide_eq_true hm];clear hm
   go_wp2_with fail
   refine(Ii (HR.out.keep HRL.out HK4.out.keep) (HG.out.keep HK4.out.keep) (HQ.out.keep HK4.out.keep) (by omega) (by omega)).mono ?_;rintro en w5 ⟨x6,rfl,hx6,hb5⟩;have HX6:=Ab hx6;have HE5:=Ab (Af HE4.out hb5);clear hx6 hb5 d0 dy d2 d3
   go_wp2_with fail
   refine(Vf HX6.out (by omega)).mono ?_;rintro en w6 ⟨rfl,hb6⟩;rw[HY.out];have HE6:=Ab (Af HE5.out hb6);clear hb6;go_wp2;go_ret;exact⟨by rw[HM.out];rfl,HE6.out⟩
  .have HM:Aa (ANS=false):=⟨by
    rw[<-HANS.out];exact decide_eq_false fun h=>hm h.1⟩
   rw[decide_eq_false hm];clear hm;go_wp2;go_ret;exact⟨by rw[HM.out];rfl,HE4.out⟩
end Go.Proofs.YtokhckjemidbpaaGreatDoor
