/- What goes through places, at a place, in the field and in the exponent (curve.Join, JoinExp). -/
import Derived.Test.YtnbmfaihlefgfaaGreatDoorCuK
set_option maxRecDepth 1000000
set_option maxHeartbeats 16000000
set_option linter.all false
namespace Go.Proofs.YtnbmfaihlefgfaaGreatDoor
open Go Go.RowKit Go.Proofs.YtnbmfaihlefgfaaGreatDoor.Flow
theorem Fit.wide {e f N:Nat}{v:Value}{w:World}(h:Fit e N v w)(hf:e<=f):Fit f N v w:=h.tight (Eh h.lim (Cu hf))
theorem Ring.wide {w:World}{r M e f:Nat}(h:Ring w r M e)(hf:e<=f)(h2:f<=10000):Ring w r M f:=⟨h.at_,h.two,Eh h.lim (Cu hf),h2⟩
theorem Dh {n:Nat}(w:World)(hn:n<18446744073709551616):Calls Tryz.prog 21 #[.int .u64 (n:Nat)] w fun en w'=>∃x,en=.returned x/\Fit 2 n x w'/\Below w.heap.size w w':=by
 refine(Da n w hn).mono ?_;rintro en w' ⟨p,m,c,rfl,h,hb,_⟩;exact⟨_,rfl,Fit.of h (by unfold Ao;omega),hb⟩
theorem Uy {w:World}{e P Q:Nat}{x y z:Option Addr×Nat×Nat}{ps:Option Addr}{ns cs:Nat}(hP:Jp w x P)(lP:P<Ao e)(hQ:Jp w y Q)(lQ:Q<Ao e)(h1:1<=P)(h2:1<=Q)(he:e<=32) :
  Calls Tryz.prog 194 #[.agg #[.slice x.1 x.2.1 x.2.2,.slice y.1 y.2.1 y.2.2,.slice z.1 z.2.1 z.2.2,.slice ps ns cs]] w fun en w'=>∃u,en=.returned (.tuple #[u,.bool (decide ((P-1)%Q=0))])/\Fit e ((P-1)/Q) u w'/\Below w.heap.size w w':=by
 have hX0:=Dp.made 118 w (.slice x.1 x.2.1 x.2.2) (.slice y.1 y.2.1 y.2.2) (.slice z.1 z.2.1 z.2.2) (.slice ps ns cs);have hb0:Below w.heap.size w (w.alloc (.cells #[.slice x.1 x.2.1 x.2.2,.slice y.1 y.2.1 y.2.2,.slice z.1 z.2.1 z.2.2,.slice ps ns cs] 118)):=Dl;have hsz:(w.alloc (.cells #[.slice x.1 x.2.1 x.2.2,.slice y.1 y.2.1 y.2.2,.slice z.1 z.2.1 z.2.2,.slice ps ns cs] 118)).heap.size=w.heap.size+1:=by simp
 obtain⟨wz,hwz⟩:∃wz,w.alloc (.cells #[.slice x.1 x.2.1 x.2.2,.slice y.1 y.2.1 y.2.2,.slice z.1 z.2.1 z.2.2,.slice ps ns cs] 118)=wz:=⟨_,rfl⟩
 rw[hwz]at hX0 hb0 hsz
 have hR0:=Af.made wz (.slice none 0 0);have hba:Below wz.heap.size wz (wz.alloc (.cells #[.slice none 0 0] 36)):=Dl;obtain⟨wa,hwa⟩:∃wa,wz.alloc (.cells #[.slice none 0 0] 36)=wa:=⟨_,rfl⟩
 rw[hwa]at hR0 hba
 have hX1:=hX0.below hba hX0.lt;rw[hsz]at hR0
 have hbel:=Ae hb0 hba;have HX:=Aa hX1;have HR:=Aa hR0;have HB:=Aa hbel;have HSZ:Ab (w.heap.size+1+1<=wa.heap.size):=⟨hR0.lt⟩
 have HP:Ab (Fit e P (.agg #[.slice x.1 x.2.1 x.2.2]) wa):=⟨(Fit.of hP lP).below hbel⟩
 have HQ:Ab (Fit e Q (.agg #[.slice y.1 y.2.1 y.2.2]) wa):=⟨(Fit.of hQ lQ).below hbel⟩
 have H1:=Aa h1;have H2:=Aa h2;have HLT:Ab (∀g∈([(w.heap.size,.cells #[.slice x.1 x.2.1 x.2.2,.slice y.1 y.2.1 y.2.2,.slice z.1 z.2.1 z.2.2,.slice ps ns cs] 118 (0,0)),(w.heap.size+1,.cells #[.slice none 0 0] 36 (0,0))]:List (Nat×Obj)),g.1<wa.heap.size):=⟨List.forall_mem_cons.2 ⟨by simp only;have:=HSZ.out;omega,List.forall_mem_cons.2 ⟨by simp only;have:=HSZ.out;omega,fun g hx=>by cases hx⟩⟩⟩
 obtain⟨ANS,hANS⟩:∃X,decide ((P-1)%Q=0)=X:=⟨_,rfl⟩
 have HANS:=Aa hANS;rw[hANS];clear hANS h1 h2 hX0 hX1 hR0 hb0 hba hbel hP hQ lP lQ;go_enter Tryz.func194,Tryz.ntmps194;go_wp2;refine Am (by kernel_rfl) (by kernel_rfl)
  [some (.pointer (some ⟨w.heap.size,0,none⟩)),some (.agg #[.slice x.1 x.2.1 x.2.2]),none,none,none,none,some (.bool true),none,none,some (.bool true)]
  [false,false,true,true,true,true,false,true,true,false] rfl
  (fun w1 w2=>Ap (w.heap.size) w1 w2)
  (fun D sp w'=>RG (w.heap.size) wa [(w.heap.size,.cells #[.slice x.1 x.2.1 x.2.2,.slice y.1 y.2.1 y.2.2,.slice z.1 z.2.1 z.2.2,.slice ps ns cs] 118 (0,0)),(w.heap.size+1,.cells #[.slice none 0 0] 36 (0,0))] w'/\bC (D 7) (D 8) (sp 7) (wa.heap.size) (P-1) w')
  (fun i v w'=>match i with
   | 2=>Fit 1 1 v w'
   | 3=>Km e (P-1) (.bool true) v w'
   | 4=>Km e (P-1) (.bool true) v w'
   | 5=>Fit (e) (P-1) v w'
   | _=>True)
  ?_ ⟨RG.start HB.out.size (List.forall_mem_cons.2 ⟨HX.out.at_,List.forall_mem_cons.2 ⟨HR.out,fun x hx=>by cases hx⟩⟩),bC.start (Av _)⟩ ?_ ?_
 .intro i v w1 w2 hf hb;split at hf
  .exact hf.keep hb
  .exact hf.keep hb
  .exact hf.keep hb
  .exact hf.keep hb
  .trivial
 .simp only[Bw,Nat.reduceAdd];refine⟨?_,?_,?_,?_,?_,?_,?_,?_,?_,?_,trivial⟩
  all_goals intro D sp w' hD hW hdp hg
  case refine_2=>
   have c0:=(Dp.cells ⟨hg.1.of List.mem_cons_self⟩).1
   with_reducible refine Ad ?_ ?_
   all_goals simp[Region.wanted,yielded,execOp,Act.eval,Act.put,go_sem,c0]
  case refine_3=>
   (with_reducible refine Ac (w1:=w') (f := 21) (args:=#[.int .u64 1]) ?_ ?_ ?_)
   .simp[Region.wanted,yielded,Act.put,go_sem]
   .simp[Act.eval,Act.put,go_sem]
   .refine(Ek w').mono ?_;rintro en w9 ⟨u,rfl,hu,hb⟩;exact⟨u,rfl,Ap.of hb hg.1.base,hu,hg.1.later hb,by simpa [upd]using hg.2.later hb⟩
  case refine_4=>
   have k2:Fit 1 1 (sp 2) w':=(hdp 2 (mq (by kernel_rfl))).2
   (with_reducible refine Ac (w1:=w') (f := 130) (args:=#[.agg #[.slice x.1 x.2.1 x.2.2],sp 2]) ?_ ?_ ?_)
   .simp[Region.wanted,yielded,Act.put,go_sem]
   .simp[Act.eval,Act.put,go_sem]
   .refine(Vy (HP.out.keep hg.1.keep) k2 (by omega) (by decide)).mono ?_;rintro en w9 ⟨_,rfl,⟨p,n,c,rfl,hu1,hu2⟩,hb⟩;rw[decide_eq_true H1.out];exact⟨_,rfl,Ap.of hb hg.1.base,⟨p,n,c,rfl,hu1,hu2⟩,hg.1.later hb,by simpa [upd]using hg.2.later hb⟩
  case refine_5=>
   have k3:Km e (P-1) (.bool true) (sp 3) w':=(hdp 3 (mq (by kernel_rfl))).2
   (with_reducible refine Ah (w1:=w') (v:=sp 3) ?_ ?_ ?_)
   .simp[Region.wanted,yielded,Act.put,go_sem]
   .simp[execOp,Act.eval,Act.put,go_sem]
   .exact⟨Ap.same _ _,k3,hg.1,by simpa [upd]using hg.2⟩
  case refine_6=>
   have hx:∃p n c,sp 4=.tuple #[.agg #[.slice p n c],.bool true]/\Ai w' p n c (P-1)/\P-1<Ao (e):=(hdp 4 (mq (by kernel_rfl))).2
   (with_reducible refine Bp hx fun p hx1=>Bp hx1 fun n hx2=>Bp hx2 fun c hx3=>?_)
   have h1:=hx3.1
   (with_reducible refine Ah (w1:=w') (v:=.agg #[.slice p n c]) ?_ ?_ ?_)
   .simp[Region.wanted,yielded,Act.put,go_sem]
   .simp[execOp,Act.eval,Act.put,go_sem,h1]
   .exact⟨Ap.same _ _,⟨p,n,c,rfl,hx3.2⟩,hg.1,by simpa [upd]using hg.2⟩
  case refine_7=>
   have hx:∃p n c,sp 4=.tuple #[.agg #[.slice p n c],.bool true]/\Ai w' p n c (P-1)/\P-1<Ao (e):=(hdp 4 (mq (by kernel_rfl))).2
   (with_reducible refine Bp hx fun p hx1=>Bp hx1 fun n hx2=>Bp hx2 fun c hx3=>?_)
   have h1:=hx3.1
   with_reducible refine Ad ?_ ?_
   all_goals simp[Region.wanted,yielded,execOp,Act.eval,Act.put,go_sem,h1]
  case refine_8=>
   have h9:D 8=false:=hW 8 (mq (by kernel_rfl));rw[hD,h9]at hg
   (with_reducible refine Ah (w1:=w'.alloc (.cells #[.slice none 0 0] 36)) (v:=.pointer (some ⟨w'.heap.size,0,none⟩)) ?_ ?_ ?_)
   .simp[Region.wanted,yielded,Act.put,go_sem]
   .simp[execOp,go_sem]
   .have hb:Below w'.heap.size w' (w'.alloc (.cells #[.slice none 0 0] 36)):=Dl;refine⟨Ap.of hb hg.1.base,trivial,hg.1.later hb,?_⟩;have h8:=hg.2.made;simpa [upd,h9]using h8
  case refine_9=>
   have hx:∃p n c,sp 5=.agg #[.slice p n c]/\Ai w' p n c (P-1)/\P-1<Ao (e):=(hdp 5 (mq (by kernel_rfl))).2
   (with_reducible refine Bp hx fun p hx1=>Bp hx1 fun n hx2=>Bp hx2 fun c hx3=>?_)
   have h1:=hx3.1;have h9:D 7=true:=(hdp 7 (mq (by kernel_rfl))).1;rw[h9]at hg
   have hp:=hg.2.put (hx3.2.1)
   (with_reducible refine Bp hp fun b hy0=>Bp hy0 fun q hy1=>Bp hy1 fun m hy2=>Bp hy2 fun k hy3=>?_)
   have h3:=hy3.1;have h6:=hy3.2.2.1.cell;have h7:=hy3.2.2.1.free
   (with_reducible refine Ar (w1:=w'.setCell ⟨b,0,none⟩ (.slice p n c)) ?_ ?_ ?_)
   .simp[Region.wanted,yielded,Act.put,go_sem]
   .simp[execOp,Act.eval,Act.put,go_sem,h1,h3,h6,h7]
   .refine⟨Ap.store hy3.2.2.1 (Dm HB.out.size hy3.2.1) _,trivial,hg.1.store_over hy3.2.2.1 HB.out.size hy3.2.1 HLT.out _,?_⟩;have h8:=hy3.2.2.2;simpa [upd,h9]using h8
  all_goals ((with_reducible refine Ad ?_ ?_);all_goals first|(simp only[Region.wanted];done)|simp[Region.wanted,yielded,execOp,Act.eval,Act.put,go_sem])
 .intro sp w2 hsp hg;obtain⟨hg1,_,hmk⟩:=hg;obtain⟨b4,e4,hb4,p4,n4,c4,hx4,hn4⟩:=hmk rfl;replace hn4:=hn4 rfl;have HK2:=Aa hg1;have HX4:=Aa hx4;have HN4:=Aa hn4;have HB4:=Aa hb4;have hx4lt:=hx4.lt;obtain⟨c0,cy,c2,c3⟩:=Dp.cells ⟨hg1.of List.mem_cons_self⟩;have cx4:=hx4.cell;have hLP:P-1<Ao e:=by have:=HP.out.lim;omega
  have HLP:=Aa hLP;clear hsp hg1 hmk hx4 hn4 hb4 hLP;simp only[An,Nat.reduceAdd];rw[e4];clear e4;generalize sp 2=y2,sp 3=y3,sp 4=y4,sp 5=y5,sp 8=y8 at *
  go_simp
  go_wp2_with fail
  refine(Tb (Fit.of HN4.out HLP.out) (HQ.out.keep HK2.out.keep) (by have:=H2.out;omega) (by omega) (by omega)).mono ?_;rintro en w3 ⟨_,rfl,⟨p6,n6,c6,p7,n7,c7,rfl,hq6,hq7⟩,hb3⟩;have HK3:=Aa (HK2.out.later hb3);have HQ6:=Aa hq6;have HQ7:=Aa hq7;have hs3:=HB4.out;have HS3:Ab (wa.heap.size<=w3.heap.size):=⟨by have:=hb3.size;have:=hx4lt;omega⟩
  have hb5:Below w3.heap.size w3 ((w3.alloc (.cells #[.slice p6 n6 c6] 36)).alloc (.cells #[.slice p7 n7 c7] 36)):=((Br _ _).alloc (Av _) _).alloc (by simp) _;have hB6:=Af.made w3 (.slice p6 n6 c6);have hB7:=Af.made (w3.alloc (.cells #[.slice p6 n6 c6] 36)) (.slice p7 n7 c7);have hB6':=hB6.below (B:=(w3.alloc (.cells #[.slice p6 n6 c6] 36)).heap.size) ((Br _ _).alloc (Av _) (.cells #[.slice p7 n7 c7] 36)) (by simp);rw[show (w3.alloc (.cells #[.slice p6 n6 c6] 36)).heap.size=w3.heap.size+1 by simp]at hB7
  obtain⟨w5,hw5⟩:∃w5,(w3.alloc (.cells #[.slice p6 n6 c6] 36)).alloc (.cells #[.slice p7 n7 c7] 36)=w5:=⟨_,rfl⟩
  rw[hw5]at hb5 hB6' hB7
  have HB6:=Aa hB6';have HB7:=Aa hB7;have HK5:=Aa (HK3.out.later hb5);have HQ6':=Aa (HQ6.out.below hb5);have HF7:Ab (Fit e ((P-1)%Q) (.agg #[.slice p7 n7 c7]) w5):=⟨Fit.of (HQ7.out.below hb5) (by have:=Nat.mod_le (P-1) Q;have:=HLP.out;omega)⟩
  have HLQ:Ab ((P-1)/Q<Ao e):=⟨Nat.lt_of_le_of_lt (Nat.div_le_self _ _) HLP.out⟩
  have HNE:Ab (∀g∈([(w3.heap.size,.cells #[.slice p6 n6 c6] 36 (0,0)),(w3.heap.size+1,.cells #[.slice p7 n7 c7] 36 (0,0))]:List (Nat×Obj)),g.1≠w.heap.size+1):=⟨List.forall_mem_cons.2 ⟨by simp only;have:=HSZ.out;have:=HS3.out;omega,List.forall_mem_cons.2 ⟨by simp only;have:=HSZ.out;have:=HS3.out;omega,fun g hx=>by cases hx⟩⟩⟩
  have HB0:Ab (w.heap.size<=w.heap.size+1):=⟨by omega⟩
  have HR5:=Aa (HK5.out.of (List.mem_cons_of_mem _ List.mem_cons_self));clear hq6 hq7 hb3 c0 cy c2 c3 cx4 hs3 hb5 hB6 hB6' hB7 hx4lt;go_wp2;refine Am (by kernel_rfl) (by kernel_rfl)
   [some (.agg #[.slice p6 n6 c6]),some (.agg #[.slice p7 n7 c7]),none,none,some (.bool ANS)]
   [false,false,true,true,false] rfl
   (fun w1 w2=>Ap (w.heap.size) w1 w2)
   (fun D sp w'=>RG (w.heap.size) w5 [(w3.heap.size,.cells #[.slice p6 n6 c6] 36 (0,0)),(w3.heap.size+1,.cells #[.slice p7 n7 c7] 36 (0,0))] w'/\Xx (D 3) (w.heap.size+1) ((P-1)/Q) w')
   (fun i v w'=>match i with
    | 2=>v=.bool ANS
    | _=>True)
   ?_ ⟨RG.start HK5.out.base (List.forall_mem_cons.2 ⟨HB6.out,List.forall_mem_cons.2 ⟨HB7.out,fun g hx=>by cases hx⟩⟩),Xx.fresh (show Af _ _ _ from HR5.out)⟩ ?_ ?_
  .intro i v w1 w2 hf hb;split at hf
   .exact hf
   .trivial
  .simp only[Bw,Nat.reduceAdd];refine⟨?_,?_,?_,?_,?_,trivial⟩
   all_goals intro D sp w' hD hW hdp hg
   case refine_1=>
    have c0:w'.cell? ⟨w3.heap.size,0,none⟩=some (.slice p6 n6 c6):=Af.cell (hg.1.of List.mem_cons_self)
    with_reducible refine Ad ?_ ?_
    all_goals simp[Region.wanted,yielded,execOp,Act.eval,Act.put,go_sem,c0]
   case refine_2=>
    have c0:w'.cell? ⟨w3.heap.size+1,0,none⟩=some (.slice p7 n7 c7):=Af.cell (hg.1.of (List.mem_cons_of_mem _ List.mem_cons_self))
    with_reducible refine Ad ?_ ?_
    all_goals simp[Region.wanted,yielded,execOp,Act.eval,Act.put,go_sem,c0]
   case refine_3=>
    (with_reducible refine Ac (w1:=w') (f := 26) (args:=#[.agg #[.slice p7 n7 c7]]) ?_ ?_ ?_)
    .simp[Region.wanted,yielded,Act.put,go_sem]
    .simp[Act.eval,Act.put,go_sem]
    .refine(Xy (HF7.out.keep hg.1.keep)).mono ?_;rintro en w9 ⟨_,rfl,rfl,hb⟩;rw[HANS.out];exact⟨_,rfl,Ap.of hb hg.1.base,rfl,hg.1.later hb,by simpa [upd]using hg.2.later hb⟩
   case refine_4=>
    have hp:=hg.2.put (hg.1.keep.nat _ _ _ _ HQ6'.out)
    (with_reducible refine Bp hp fun q hy1=>Bp hy1 fun m hy2=>Bp hy2 fun k hy3=>?_)
    have h6:=hy3.1.cell;have h7:=hy3.1.free
    (with_reducible refine Ar (w1:=w'.setCell ⟨w.heap.size+1,0,none⟩ (.slice p6 n6 c6)) ?_ ?_ ?_)
    .simp[Region.wanted,yielded,Act.put,go_sem]
    .simp[execOp,Act.eval,Act.put,go_sem,h6,h7]
    .refine⟨Ap.store hy3.1 HB0.out _,trivial,hg.1.store hy3.1 HB0.out HNE.out _,?_⟩;have h8:=hy3.2;simpa [upd]using h8
   case refine_5=>
    have k2:(sp 2)=.bool ANS:=(hdp 2 (mq (by kernel_rfl))).2
    with_reducible refine Ad ?_ ?_
    all_goals simp[Region.wanted,yielded,execOp,Act.eval,Act.put,go_sem,k2]
  .intro sp w7 hsp hg;obtain⟨hg1,pz,nz,cz,hz1,hz2⟩:=hg;have kz:=hz1.cell;have HZ:=Aa (hz2 rfl);have HE7:=Aa (HB.out.trans (HK5.out.keep.trans hg1.keep).bel);clear hsp hg1 hz1 hz2;simp only[An,Nat.reduceAdd];generalize sp 2=y2,sp 3=y3 at *
   go_simp
   go_wp2;exact bodyPost_ret (v:=.tuple #[.agg #[.slice pz nz cz],.bool ANS]) (by simp[results,Tryz.results194,go_sem,kz]) rfl ⟨_,rfl,Fit.of HZ.out HLQ.out,HE7.out⟩
theorem Zx {w:World}{r q e ex n c X:Nat}{p:Option Addr}{As:List Nat}{v:Value}(hR:Ring w r q 33)(hA:Aw w e p n c As)(hX:Fit ex X v w)(he:e<=200)(hex:ex<=200)(hn:n<=1000000) :
  Calls Tryz.prog 33 #[.pointer (some ⟨r,0,none⟩),.slice p n c,v] w fun en w'=>∃x,en=.returned x/\Fit 33 (Lh q X As) x w'/\Below w.heap.size w w':=by
 obtain⟨px,nx,cx,rfl,x1,x2⟩:=Au hX;have hbx:=dU.mk2 w (.slice px nx cx) (.slice none 0 0);have HR:=Aa (hR.below hbx.bel);have HA:=Aa (hA.below hbx.bel);have HX:=Aa ((Fit.of x1 x2).below hbx.bel);have HBX:=Aa hbx;have c0:=hbx.b0.cell;clear hR hA hX x1 hbx;go_enter Tryz.func33,Tryz.ntmps33
 go_wp2_with fail
 refine(Fg HR.out HX.out (by omega)).mono ?_;rintro en w1 ⟨_,rfl,⟨p1,n1,c1,rfl,h1,l1⟩,hb1⟩;have HF1:=Aa (Fit.of h1 l1);have HB1:=Aa hb1;clear h1 hb1 c0
 go_wp2_with fail
 refine(Dh (n:=0) w1 (by omega)).mono ?_;rintro en w2 ⟨_,rfl,⟨p2,n2,c2,rfl,h2,l2⟩,hb2⟩;have hb12:=Ae HB1.out hb2;have HV:=Aa (callsIn_wide.1 (jE w2 (enters_of Tryz.func47 (by kernel_rfl) rfl) (enters_of Tryz.func48 (by kernel_rfl) rfl) (kB (HR.out.below hb12)) (kA (HR.out.below hb12)) (HA.out.below hb12) (HF1.out.below hb2) ((Fit.of h2 l2).wide (by decide:2<=33)) he (by decide) hn));have HX2:=Aa (HBX.out.later hb12);clear h2 hb2 hb12 HB1 HBX HR HA HF1
 go_wp2_with fail
 refine HV.out.mono ?_;rintro en w3 ⟨_,rfl,⟨p3,n3,c3,rfl,h3,l3⟩,hb3⟩;rw[Yd,Zj]at h3 l3
 have hx3:=HX2.out.later hb3;have k1:=hx3.b1.cell;have f1:=hx3.b1.free;have HF:=Aa (Fit.of (h3.store hx3.b1 (.slice p3 n3 c3)) l3);have HBF:Ab (Below w.heap.size w (w3.setCell ⟨w.heap.size+1,0,none⟩ (.slice p3 n3 c3))):=⟨hx3.bel.setCell (by simp) _⟩
 clear h3 hx3 hb3 HV HX2;go_wp2;exact bodyPost_ret (v:=.agg #[.slice p3 n3 c3]) (by simp[results,Tryz.results33,go_sem,k1]) rfl ⟨_,rfl,HF.out,HBF.out⟩
theorem Nu {q n V:Nat}{Bs:List Nat}(h:Cn q n V Bs=0):n=V:=by
 unfold Cn at h
 by_cases h0:n=0
 .rw[if_pos h0]at h;omega
 .rw[if_neg h0]at h
  by_cases h1:n=V
  .exact h1
  .rw[if_pos h1]at h;omega
def Uk (Q:Nat)(v:Value)(w:World):Prop:=∃r,v=.pointer (some ⟨r,0,none⟩)/\Ring w r Q 33
theorem Uk.below {Q:Nat}{v:Value}{w w':World}(h:Uk Q v w)(hb:Below w.heap.size w w'):Uk Q v w':=let ⟨r,h1,h2⟩:=h;⟨r,h1,h2.below hb⟩
def qH (q n X:Nat)(Bs:List Nat)(v:Value)(w:World):Prop:=∃g,v=.tuple #[.slice (some ⟨g,0,none⟩) n n,.int .i64 0]/\Aw w 33 (some ⟨g,0,none⟩) n n (Gb q X [] Bs)
theorem qH.below {q n X:Nat}{Bs:List Nat}{v:Value}{w w':World}(h:qH q n X Bs v w)(hb:Below w.heap.size w w'):qH q n X Bs v w':=let ⟨g,h1,h2⟩:=h;⟨g,h1,h2.below hb⟩
def nJ (n:Nat)(Ns:List Nat)(v:Value)(w:World):Prop:=∃g,v=.slice (some ⟨g,0,none⟩) n n/\Aw w 33 (some ⟨g,0,none⟩) n n Ns
theorem nJ.below {n:Nat}{Ns:List Nat}{v:Value}{w w':World}(h:nJ n Ns v w)(hb:Below w.heap.size w w'):nJ n Ns v w':=let ⟨g,h1,h2⟩:=h;⟨g,h1,h2.below hb⟩
theorem Zo {w:World}{b P Q G H:Nat}(h:Cp w b P Q G H):Calls Tryz.prog 20 #[.pointer (some ⟨b,0,none⟩)] w fun en w'=>∃u,en=.returned u/\Uk Q u w'/\Below w.heap.size w w':=by
 refine(Gg h).mono ?_;rintro en w' ⟨r,rfl,hr,hb⟩;exact⟨_,rfl,⟨r,rfl,hr⟩,hb⟩
theorem pI {w:World}{q e e2 n c V X:Nat}{p:Option Addr}{Bs:List Nat}{f v:Value}(hq:Ch q)(hF:Uk q f w)(h:Aw w e p n c Bs)(hX:Fit e2 X v w)(he:e<=200)(he2:e2<=200)(hn:n<=12)(hf:Cn q n V Bs=0) :
  Calls Tryz.prog 84 #[f,.slice p n c,.int .i64 V,v] w fun en w'=>∃u,en=.returned u/\qH q n X Bs u w'/\Below w.heap.size w w':=by
 obtain⟨r,rfl,hR⟩:=hF;obtain rfl:=Nu hf;refine(pE hq hR h hX he he2 hn hf).mono ?_;rintro en w' ⟨g,rfl,h2,h3⟩;exact⟨_,rfl,⟨g,rfl,h2⟩,h3⟩
theorem nL {w:World}{q e e2 n c V X:Nat}{p:Option Addr}{Bs:List Nat}{f v:Value}(hF:Uk q f w)(h:Aw w e p n c Bs)(hX:Fit e2 X v w)(he:e<=200)(hn:n<=12)(hV:V<=1000000)(hf:Cn q n V Bs≠0) :
  Calls Tryz.prog 84 #[f,.slice p n c,.int .i64 V,v] w fun en w'=>en=.returned (.tuple #[.slice none 0 0,.int .i64 (Cn q n V Bs:Nat)])/\Below w.heap.size w w':=by
 obtain⟨r,rfl,hR⟩:=hF;exact jD hR h hX he hn hV hf
def Xw (f N:Nat)(w:World)(en:Ending)(w':World):Prop :=
 (f≠0->en=.returned (.tuple #[.agg #[.slice none 0 0],.int .i64 (f:Nat)]))/\(f=0->∃x,en=.returned (.tuple #[x,.int .i64 0])/\Fit 33 N x w')/\Below w.heap.size w w'
theorem kR {w:World}{r q e e2 ey n c V cy X:Nat}{p py:Option Addr}{Bs Ys:List Nat}{v:Value}(hq:Ch q)(hR:Ring w r q 33)(h:Aw w e p n c Bs)(hY:Aw w ey py V cy Ys)(hX:Fit e2 X v w)(he:e<=200)(he2:e2<=200)(hey:ey<=200)(hn:n<=12)(hV:V<=1000000) :
  Calls Tryz.prog 19 #[.pointer (some ⟨r,0,none⟩),.slice p n c,.slice py V cy,v] w (Xw (Cn q n V Bs) (Nc q X [] Bs Ys 0) w):=by
 obtain⟨px,nx,cx,rfl,x1,x2⟩:=Au hX;have hbx:=dU.mk2 w (.slice px nx cx) (.slice none 0 0);obtain⟨W0,hW0⟩:∃W,(w.alloc (.cells #[.slice px nx cx] 36)).alloc (.cells #[.slice none 0 0] 36)=W:=⟨_,rfl⟩
 rw[hW0]at hbx
 have HP:=Aa (h.below hbx.bel);have HY:=Aa (hY.below hbx.bel);have HX:=Aa ((Fit.of x1 x2).below hbx.bel);have HBX:=Aa hbx;have HQ:=Aa hq;have HR:=Aa (hR.below hbx.bel);have c0:=hbx.b0.cell;clear hq hR h hY hX x1 hbx
 by_cases hf:Cn q n V Bs=0
 .obtain rfl:=Nu hf;have HFA:=Aa hf;have HW:=Aa (pE HQ.out HR.out HP.out HX.out he he2 hn hf);clear hf;go_enter Tryz.func19,Tryz.ntmps19
  go_wp2_with fail
  refine HW.out.mono ?_;rintro en w7 ⟨g,rfl,hp,hb7⟩;have HPW:=Aa hp;have HB7:=Aa hb7;clear hp hb7 c0 HW hW0;have hx7:=HBX.out.later HB7.out;have HX7:=Aa hx7;clear hx7
  go_wp2_with fail
  refine(Dh (n:=0) w7 (by omega)).mono ?_;rintro en w2 ⟨_,rfl,⟨p2,n2,c2,rfl,h2,l2⟩,hb2⟩;have hb02:=Ae HB7.out hb2;have HV:=Aa (Qh (w:=w2) (enters_of Tryz.func47 (by kernel_rfl) rfl) (enters_of Tryz.func48 (by kernel_rfl) rfl) (kB (HR.out.below hb02)) (kA (HR.out.below hb02)) (HY.out.below hb02) (HPW.out.below hb2) ((Fit.of h2 l2).wide (by decide:2<=33)) hey (by omega) ⟨_,rfl⟩ ⟨_,rfl⟩);have HX2:=Aa (HX7.out.later hb2);clear h2 hb2 hb02 HX7
  go_wp2_with fail
  refine HV.out.mono ?_;rintro en w3 ⟨_,rfl,⟨p3,n3,c3,rfl,h3,l3⟩,hb3⟩;rw[Pk]at h3 l3
  have hx3:=HX2.out.later hb3;have k1:=hx3.b1.cell;have f1:=hx3.b1.free;have HF:=Aa (Fit.of (h3.store hx3.b1 (.slice p3 n3 c3)) l3);have HBF:Ab (Below w.heap.size w (w3.setCell ⟨w.heap.size+1,0,none⟩ (.slice p3 n3 c3))):=⟨hx3.bel.setCell (by simp) _⟩
  clear h3 hx3 hb3 HV HX2;go_wp2;exact bodyPost_ret (v:=.tuple #[.agg #[.slice p3 n3 c3],.int .i64 0]) (by simp[results,Tryz.results19,go_sem,k1]) rfl ⟨fun hne=>absurd HFA.out hne,fun _=>⟨_,rfl,HF.out⟩,HBF.out⟩
 .have HFA:Ab _:=⟨hf⟩
  have HW:=Aa (jD HR.out HP.out HX.out he hn hV hf);obtain⟨E,hE⟩:∃E,Cn q n V Bs=E:=⟨_,rfl⟩
  have HEE:=Aa hE;have hne:((E:Int)!=0)=true:=by rw[bne_iff_ne];rw[hE]at hf;omega
  clear hf;go_enter Tryz.func19,Tryz.ntmps19
  go_wp2_with fail
  refine HW.out.mono ?_;rintro en w7 ⟨rfl,hb7⟩;have HB7:=Aa hb7;simp only[hE];clear hb7 c0 HW hW0 hE;have hx7:=HBX.out.later HB7.out;have k1:=hx7.b1.cell;have f1:=hx7.b1.free;have HBF:Ab (Below w.heap.size w (w7.setCell ⟨w.heap.size+1,0,none⟩ (.slice none 0 0))):=⟨hx7.bel.setCell (by simp) _⟩
  clear hx7;go_wp2;exact bodyPost_ret (v:=.tuple #[.agg #[.slice none 0 0],.int .i64 (E:Nat)]) (by simp[results,Tryz.results19,go_sem,k1]) rfl ⟨fun _=>by rw[HEE.out],fun h0=>absurd h0 HFA.out,HBF.out⟩
theorem Zg {w:World}{b P Q G H e e2 ey n c V cy X:Nat}{p py:Option Addr}{Bs Ys:List Nat}{v:Value}(hq:Ch Q)(hG:Cp w b P Q G H)(h:Aw w e p n c Bs)(hY:Aw w ey py V cy Ys)(hX:Fit e2 X v w)(he:e<=200)(he2:e2<=200)(hey:ey<=200)(hn:n<=12)(hV:V<=1000000) :
  Calls Tryz.prog 22 #[.pointer (some ⟨b,0,none⟩),.slice p n c,.slice py V cy,v] w (Xw (Cn Q n V Bs) (Ho P 1 (Ys.zip (Gb Q X [] Bs))) w):=by
 obtain⟨px,nx,cx,rfl,x1,x2⟩:=Au hX;have hbx:=dU.mk2 w (.slice px nx cx) (.slice none 0 0);obtain⟨W0,hW0⟩:∃W,(w.alloc (.cells #[.slice px nx cx] 36)).alloc (.cells #[.slice none 0 0] 36)=W:=⟨_,rfl⟩
 rw[hW0]at hbx
 have HP:=Aa (h.below hbx.bel);have HY:=Aa (hY.below hbx.bel);have HX:=Aa ((Fit.of x1 x2).below hbx.bel);have HBX:=Aa hbx;have HQ:=Aa hq;have HG:=Aa (hG.below hbx.bel);clear hq hG h hY hX x1 hbx
 by_cases hf:Cn Q n V Bs=0
 .have HFA:Ab _:=⟨hf⟩
  obtain⟨V',hV'⟩:∃V',V=V':=⟨_,rfl⟩
  have HSM:Ab (n=V):=⟨Nu hf⟩
  clear hf hV' V';go_enter Tryz.func22,Tryz.ntmps22;go_wp2;refine Aj (by kernel_rfl) (by kernel_rfl)
   [some (.pointer (some ⟨b,0,none⟩)),none,some (.slice p n c),some (.slice py V cy),some (.int .i64 (V:Nat)),some (.agg #[.slice px nx cx]),none,none,none,some (.int .i64 0),none,some (.int .i64 0)]
   [false,true,false,false,false,false,true,true,true,false,true,false] rfl
   (fun w1 w2=>Below w1.heap.size w1 w2)
   (fun _ w'=>Below W0.heap.size W0 w')
   (fun i v w'=>match i with
    | 1=>Uk Q v w'
    | 6=>qH Q n X Bs v w'
    | 7=>qH Q n X Bs v w'
    | 8=>nJ n (Gb Q X [] Bs) v w'
    | 10=>nJ n (Gb Q X [] Bs) v w'
    | _=>True)
   ?_ (Br _ _).drew ?_ ?_
  .intro i v w1 w2 hf hb;split at hf
   .exact hf.below hb
   .exact hf.below hb
   .exact hf.below hb
   .exact hf.below hb
   .exact hf.below hb
   .trivial
  .simp only[Bu,Nat.reduceAdd];refine⟨?_,?_,?_,?_,?_,?_,?_,?_,?_,?_,?_,?_,trivial⟩
   all_goals intro D sp w' hD hW hdp hbx'
   case refine_2=>
    (with_reducible refine Ac (w1:=w') (f := 20) (args:=#[.pointer (some ⟨b,0,none⟩)]) ?_ ?_ ?_)
    .simp[Region.wanted,yielded,Act.put,go_sem]
    .simp[Act.eval,Act.put,go_sem]
    .refine(Zo (HG.out.below hbx')).mono ?_;rintro en w9 ⟨u,rfl,hu,hb⟩;exact⟨u,rfl,hb,hu,Ae hbx' hb⟩
   case refine_5=>
    (with_reducible refine Ah (w1:=w') (v:=.int .i64 (V:Nat)) ?_ ?_ ?_)
    .simp[Region.wanted,yielded,Act.put,go_sem]
    .simp[Act.eval,Act.put,go_sem]
    .exact⟨rfl,rfl⟩
   case refine_6=>
    have c0:=(HBX.out.later hbx').b0.cell
    with_reducible refine Ad ?_ ?_
    all_goals simp[Region.wanted,yielded,execOp,Act.eval,Act.put,go_sem,c0]
   case refine_7=>
    have k1:Uk Q (sp 1) w':=(hdp 1 (mq (by kernel_rfl))).2
    (with_reducible refine Ac (w1:=w') (f := 84) (args:=#[sp 1,.slice p n c,.int .i64 (V:Nat),.agg #[.slice px nx cx]]) ?_ ?_ ?_)
    .simp[Region.wanted,yielded,Act.put,go_sem]
    .simp[Act.eval,Act.put,go_sem]
    .refine(pI HQ.out k1 (HP.out.below hbx') (HX.out.below hbx') he he2 hn HFA.out).mono ?_;rintro en w9 ⟨u,rfl,hu,hb⟩;exact⟨u,rfl,hb,hu,Ae hbx' hb⟩
   case refine_8=>
    have k6:qH Q n X Bs (sp 6) w':=(hdp 6 (mq (by kernel_rfl))).2
    (with_reducible refine Ah (w1:=w') (v:=sp 6) ?_ ?_ ?_)
    .simp[Region.wanted,yielded,Act.put,go_sem]
    .simp[execOp,Act.eval,Act.put,go_sem]
    .exact⟨Br _ _,k6,hbx'⟩
   case refine_9=>
    have k7:∃g,sp 7=.tuple #[.slice (some ⟨g,0,none⟩) n n,.int .i64 0]/\Aw w' 33 (some ⟨g,0,none⟩) n n (Gb Q X [] Bs):=(hdp 7 (mq (by kernel_rfl))).2
    (with_reducible refine Bp k7 fun g hg1=>?_)
    have c1:=hg1.1
    (with_reducible refine Ah (w1:=w') (v:=.slice (some ⟨g,0,none⟩) n n) ?_ ?_ ?_)
    .simp[Region.wanted,yielded,Act.put,go_sem]
    .simp[execOp,Act.eval,Act.put,go_sem,c1]
    .exact⟨Br _ _,⟨g,rfl,hg1.2⟩,hbx'⟩
   case refine_10=>
    have k7:∃g,sp 7=.tuple #[.slice (some ⟨g,0,none⟩) n n,.int .i64 0]/\Aw w' 33 (some ⟨g,0,none⟩) n n (Gb Q X [] Bs):=(hdp 7 (mq (by kernel_rfl))).2
    (with_reducible refine Bp k7 fun g hg1=>?_)
    have c1:=hg1.1
    with_reducible refine Ad ?_ ?_
    all_goals simp[Region.wanted,yielded,execOp,Act.eval,Act.put,go_sem,c1]
   case refine_11=>
    have k8:nJ n (Gb Q X [] Bs) (sp 8) w':=(hdp 8 (mq (by kernel_rfl))).2
    (with_reducible refine Ah (w1:=w') (v:=sp 8) ?_ ?_ ?_)
    .simp[Region.wanted,yielded,Act.put,go_sem]
    .simp[execOp,Act.eval,Act.put,go_sem]
    .exact⟨Br _ _,k8,hbx'⟩
   all_goals ((with_reducible refine Ad ?_ ?_);all_goals first|(simp only[Region.wanted];done)|simp[Region.wanted,yielded,execOp,Act.eval,Act.put,go_sem])
  .intro sp w7 hsp hbx';have HB7:=Aa hbx';have h10:nJ n (Gb Q X [] Bs) (sp 10) w7:=hsp 10 rfl;obtain⟨g,e10,hp10⟩:=h10;have HPW:=Aa hp10;clear hp10;clear hsp hbx';simp only[An,Nat.reduceAdd];generalize sp 1=y1,sp 6=y6,sp 7=y7,sp 8=y8,sp 10=y10 at *;subst e10
   go_simp
   obtain rfl:=HSM.out;clear hW0;have hx7:=HBX.out.later HB7.out;have HX7:=Aa hx7;clear hx7
   go_wp2_with fail
   refine(Dh (n:=1) w7 (by omega)).mono ?_;rintro en w2 ⟨_,rfl,⟨p2,n2,c2,rfl,h2,l2⟩,hb2⟩;have hb02:=Ae HB7.out hb2;have HV:=Aa (Qh (w:=w2) (enters_of Tryz.func89 (by kernel_rfl) rfl) (enters_of Tryz.func42 (by kernel_rfl) rfl) (oC (HG.out.below hb02)) (oD (HG.out.below hb02)) (HY.out.below hb02) (HPW.out.below hb2) ((Fit.of h2 l2).wide (by decide:2<=33)) hey (by omega) ⟨_,rfl⟩ ⟨_,rfl⟩);have HX2:=Aa (HX7.out.later hb2);clear h2 hb2 hb02 HX7
   go_wp2_with fail
   refine HV.out.mono ?_;rintro en w3 ⟨_,rfl,⟨p3,n3,c3,rfl,h3,l3⟩,hb3⟩;rw[Rs]at h3 l3
   have hx3:=HX2.out.later hb3;have k1:=hx3.b1.cell;have f1:=hx3.b1.free;have HF:=Aa (Fit.of (h3.store hx3.b1 (.slice p3 n3 c3)) l3);have HBF:Ab (Below w.heap.size w (w3.setCell ⟨w.heap.size+1,0,none⟩ (.slice p3 n3 c3))):=⟨hx3.bel.setCell (by simp) _⟩
   clear h3 hx3 hb3 HV HX2;go_wp2;exact bodyPost_ret (v:=.tuple #[.agg #[.slice p3 n3 c3],.int .i64 0]) (by simp[results,Tryz.results22,go_sem,k1]) rfl ⟨fun hne=>absurd HFA.out hne,fun _=>⟨_,rfl,HF.out⟩,HBF.out⟩
 .have HFA:Ab _:=⟨hf⟩
  obtain⟨E,hE⟩:∃E,Cn Q n V Bs=E:=⟨_,rfl⟩
  have HEE:=Aa hE;have hne:((E:Int)!=0)=true:=by rw[bne_iff_ne];rw[hE]at hf;omega
  clear hf hE;go_enter Tryz.func22,Tryz.ntmps22;go_wp2;refine Aj (by kernel_rfl) (by kernel_rfl)
   [some (.pointer (some ⟨b,0,none⟩)),none,some (.slice p n c),some (.slice py V cy),some (.int .i64 (V:Nat)),some (.agg #[.slice px nx cx]),none,some (.tuple #[.slice none 0 0,.int .i64 (E:Nat)]),some (.slice none 0 0),some (.int .i64 (E:Nat)),some (.slice none 0 0),some (.int .i64 (E:Nat))]
   [false,true,false,false,false,false,true,false,false,false,false,false] rfl
   (fun w1 w2=>Below w1.heap.size w1 w2)
   (fun _ w'=>Below W0.heap.size W0 w')
   (fun i v w'=>match i with
    | 1=>Uk Q v w'
    | 6=>v=.tuple #[.slice none 0 0,.int .i64 (E:Nat)]
    | _=>True)
   ?_ (Br _ _).drew ?_ ?_
  .intro i v w1 w2 hf hb;split at hf
   .exact hf.below hb
   .exact hf
   .trivial
  .simp only[Bu,Nat.reduceAdd];refine⟨?_,?_,?_,?_,?_,?_,?_,?_,?_,?_,?_,?_,trivial⟩
   all_goals intro D sp w' hD hW hdp hbx'
   case refine_2=>
    (with_reducible refine Ac (w1:=w') (f := 20) (args:=#[.pointer (some ⟨b,0,none⟩)]) ?_ ?_ ?_)
    .simp[Region.wanted,yielded,Act.put,go_sem]
    .simp[Act.eval,Act.put,go_sem]
    .refine(Zo (HG.out.below hbx')).mono ?_;rintro en w9 ⟨u,rfl,hu,hb⟩;exact⟨u,rfl,hb,hu,Ae hbx' hb⟩
   case refine_5=>
    (with_reducible refine Ah (w1:=w') (v:=.int .i64 (V:Nat)) ?_ ?_ ?_)
    .simp[Region.wanted,yielded,Act.put,go_sem]
    .simp[Act.eval,Act.put,go_sem]
    .exact⟨rfl,rfl⟩
   case refine_6=>
    have c0:=(HBX.out.later hbx').b0.cell
    with_reducible refine Ad ?_ ?_
    all_goals simp[Region.wanted,yielded,execOp,Act.eval,Act.put,go_sem,c0]
   case refine_7=>
    have k1:Uk Q (sp 1) w':=(hdp 1 (mq (by kernel_rfl))).2
    (with_reducible refine Ac (w1:=w') (f := 84) (args:=#[sp 1,.slice p n c,.int .i64 (V:Nat),.agg #[.slice px nx cx]]) ?_ ?_ ?_)
    .simp[Region.wanted,yielded,Act.put,go_sem]
    .simp[Act.eval,Act.put,go_sem]
    .refine(nL k1 (HP.out.below hbx') (HX.out.below hbx') he hn hV HFA.out).mono ?_;rintro en w9 ⟨rfl,hb⟩;rw[HEE.out];exact⟨_,rfl,hb,rfl,Ae hbx' hb⟩
   case refine_8=>
    have k6:(sp 6)=.tuple #[.slice none 0 0,.int .i64 (E:Nat)]:=(hdp 6 (mq (by kernel_rfl))).2
    with_reducible refine Ad ?_ ?_
    all_goals simp[Region.wanted,yielded,execOp,Act.eval,Act.put,go_sem,k6]
   all_goals ((with_reducible refine Ad ?_ ?_);all_goals first|(simp only[Region.wanted];done)|simp[Region.wanted,yielded,execOp,Act.eval,Act.put,go_sem])
  .intro sp w7 hsp hbx';have HB7:=Aa hbx';clear hsp hbx';simp only[An,Nat.reduceAdd];generalize sp 1=y1,sp 6=y6 at *
   go_simp
   clear hW0;have hx7:=HBX.out.later HB7.out;have k1:=hx7.b1.cell;have f1:=hx7.b1.free;have HBF:Ab (Below w.heap.size w (w7.setCell ⟨w.heap.size+1,0,none⟩ (.slice none 0 0))):=⟨hx7.bel.setCell (by simp) _⟩
   clear hx7;go_wp2;exact bodyPost_ret (v:=.tuple #[.agg #[.slice none 0 0],.int .i64 (E:Nat)]) (by simp[results,Tryz.results22,go_sem,k1]) rfl ⟨fun _=>by rw[HEE.out],fun h0=>absurd h0 HFA.out,HBF.out⟩
end Go.Proofs.YtnbmfaihlefgfaaGreatDoor
