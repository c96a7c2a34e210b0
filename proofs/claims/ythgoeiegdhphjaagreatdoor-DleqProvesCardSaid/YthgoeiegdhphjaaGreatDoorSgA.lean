/- How a region stands that stores into boxes of one number alone; sign's small calls. -/
import Derived.Test.YthgoeiegdhphjaaGreatDoorEuc
import Derived.OwnWalkIn
import Derived.TacticsInMore
import Derived.LoopNIn
import Derived.LoopIn
import Derived.RangeFuncNested
import Derived.RangeFuncBound
import Derived.RangeFuncCalls
import Derived.RangeFuncLeaves
import Derived.OrdersIn
import Derived.Test.YthgoeiegdhphjaaGreatDoorGqI
import Derived.BigRegion
set_option maxRecDepth 1000000
set_option maxHeartbeats 16000000
set_option linter.all false
namespace Go.Proofs.YthgoeiegdhphjaaGreatDoor
open Go Go.RowKit Go.Proofs.YthgoeiegdhphjaaGreatDoor.Flow
theorem Fit.wide {e f N:Nat}{v:Value}{w:World}(h:Fit e N v w)(hf:e<=f):Fit f N v w:=h.tight (Dj h.lim (De hf))
theorem Ring.wide {w:World}{r M e f:Nat}(h:Ring w r M e)(hf:e<=f)(h2:f<=10000):Ring w r M f:=⟨h.at_,h.two,Dj h.lim (De hf),h2⟩
theorem Dv {n:Nat}(w:World)(hn:n<18446744073709551616):Calls Tryz.prog 20 #[.int .u64 (n:Nat)] w fun en w'=>∃x,en=.returned x/\Fit 2 n x w'/\Below w.heap.size w w':=by
 refine(Dh n w hn).mono ?_;rintro en w' ⟨p,m,c,rfl,h,hb,_⟩;exact⟨_,rfl,Fit.of h (by unfold Au;omega),hb⟩
theorem Wd {w:World}{e P Q:Nat}{x y z:Option Addr×Nat×Nat}{ps:Option Addr}{ns cs:Nat}(hP:Er w x P)(lP:P<Au e)(hQ:Er w y Q)(lQ:Q<Au e)(h1:1<=P)(h2:1<=Q)(he:e<=32) :
  Calls Tryz.prog 172 #[.agg #[.slice x.1 x.2.1 x.2.2,.slice y.1 y.2.1 y.2.2,.slice z.1 z.2.1 z.2.2,.slice ps ns cs]] w fun en w'=>∃u,en=.returned (.tuple #[u,.bool (decide ((P-1)%Q=0))])/\Fit e ((P-1)/Q) u w'/\Below w.heap.size w w':=by
 have hX0:=Cp.made 105 w (.slice x.1 x.2.1 x.2.2) (.slice y.1 y.2.1 y.2.2) (.slice z.1 z.2.1 z.2.2) (.slice ps ns cs);have hb0:Below w.heap.size w (w.alloc (.cells #[.slice x.1 x.2.1 x.2.2,.slice y.1 y.2.1 y.2.2,.slice z.1 z.2.1 z.2.2,.slice ps ns cs] 105)):=Bw;have hsz:(w.alloc (.cells #[.slice x.1 x.2.1 x.2.2,.slice y.1 y.2.1 y.2.2,.slice z.1 z.2.1 z.2.2,.slice ps ns cs] 105)).heap.size=w.heap.size+1:=by simp
 obtain⟨wz,hwz⟩:∃wz,w.alloc (.cells #[.slice x.1 x.2.1 x.2.2,.slice y.1 y.2.1 y.2.2,.slice z.1 z.2.1 z.2.2,.slice ps ns cs] 105)=wz:=⟨_,rfl⟩
 rw[hwz]at hX0 hb0 hsz
 have hR0:=Ag.made wz (.slice none 0 0);have hba:Below wz.heap.size wz (wz.alloc (.cells #[.slice none 0 0] 36)):=Bw;obtain⟨wa,hwa⟩:∃wa,wz.alloc (.cells #[.slice none 0 0] 36)=wa:=⟨_,rfl⟩
 rw[hwa]at hR0 hba
 have hX1:=hX0.below hba hX0.lt;rw[hsz]at hR0
 have hbel:=Ae hb0 hba;have HX:=Ab hX1;have HR:=Ab hR0;have HB:=Ab hbel;have HSZ:Aa (w.heap.size+1+1<=wa.heap.size):=⟨hR0.lt⟩
 have HP:Aa (Fit e P (.agg #[.slice x.1 x.2.1 x.2.2]) wa):=⟨(Fit.of hP lP).below hbel⟩
 have HQ:Aa (Fit e Q (.agg #[.slice y.1 y.2.1 y.2.2]) wa):=⟨(Fit.of hQ lQ).below hbel⟩
 have H1:=Ab h1;have H2:=Ab h2;have HLT:Aa (∀g∈([(w.heap.size,.cells #[.slice x.1 x.2.1 x.2.2,.slice y.1 y.2.1 y.2.2,.slice z.1 z.2.1 z.2.2,.slice ps ns cs] 105 (0,0)),(w.heap.size+1,.cells #[.slice none 0 0] 36 (0,0))]:List (Nat×Obj)),g.1<wa.heap.size):=⟨List.forall_mem_cons.2 ⟨by simp only;have:=HSZ.out;omega,List.forall_mem_cons.2 ⟨by simp only;have:=HSZ.out;omega,fun g hx=>by cases hx⟩⟩⟩
 obtain⟨ANS,hANS⟩:∃X,decide ((P-1)%Q=0)=X:=⟨_,rfl⟩
 have HANS:=Ab hANS;rw[hANS];clear hANS h1 h2 hX0 hX1 hR0 hb0 hba hbel hP hQ lP lQ;go_enter Tryz.func172,Tryz.ntmps172;go_wp2;refine Al (by kernel_rfl) (by kernel_rfl)
  [some (.pointer (some ⟨w.heap.size,0,none⟩)),some (.agg #[.slice x.1 x.2.1 x.2.2]),none,none,none,none,some (.bool true),none,none,some (.bool true)]
  [false,false,true,true,true,true,false,true,true,false] rfl
  (fun w1 w2=>Ar (w.heap.size) w1 w2)
  (fun D sp w'=>RG (w.heap.size) wa [(w.heap.size,.cells #[.slice x.1 x.2.1 x.2.2,.slice y.1 y.2.1 y.2.2,.slice z.1 z.2.1 z.2.2,.slice ps ns cs] 105 (0,0)),(w.heap.size+1,.cells #[.slice none 0 0] 36 (0,0))] w'/\Ry (D 7) (D 8) (sp 7) (wa.heap.size) (P-1) w')
  (fun i v w'=>match i with
   | 2=>Fit 1 1 v w'
   | 3=>Ge e (P-1) (.bool true) v w'
   | 4=>Ge e (P-1) (.bool true) v w'
   | 5=>Fit (e) (P-1) v w'
   | _=>True)
  ?_ ⟨RG.start HB.out.size (List.forall_mem_cons.2 ⟨HX.out.at_,List.forall_mem_cons.2 ⟨HR.out,fun x hx=>by cases hx⟩⟩),Ry.start (Av _)⟩ ?_ ?_
 .intro i v w1 w2 hf hb;split at hf
  .exact hf.keep hb
  .exact hf.keep hb
  .exact hf.keep hb
  .exact hf.keep hb
  .trivial
 .simp only[Bb,Nat.reduceAdd];refine⟨?_,?_,?_,?_,?_,?_,?_,?_,?_,?_,trivial⟩
  all_goals intro D sp w' hD hW hdp hg
  case refine_2=>
   have c0:=(Cp.cells ⟨hg.1.of List.mem_cons_self⟩).1
   with_reducible refine Ad ?_ ?_
   all_goals simp[Region.wanted,yielded,execOp,Act.eval,Act.put,go_sem,c0]
  case refine_3=>
   (with_reducible refine Ac (w1:=w') (f := 20) (args:=#[.int .u64 1]) ?_ ?_ ?_)
   .simp[Region.wanted,yielded,Act.put,go_sem]
   .simp[Act.eval,Act.put,go_sem]
   .refine(Ga w').mono ?_;rintro en w9 ⟨u,rfl,hu,hb⟩;exact⟨u,rfl,Ar.of hb hg.1.base,hu,hg.1.later hb,by simpa [upd]using hg.2.later hb⟩
  case refine_4=>
   have k2:Fit 1 1 (sp 2) w':=(hdp 2 (mq (by kernel_rfl))).2
   (with_reducible refine Ac (w1:=w') (f := 120) (args:=#[.agg #[.slice x.1 x.2.1 x.2.2],sp 2]) ?_ ?_ ?_)
   .simp[Region.wanted,yielded,Act.put,go_sem]
   .simp[Act.eval,Act.put,go_sem]
   .refine(Xi (HP.out.keep hg.1.keep) k2 (by omega) (by decide)).mono ?_;rintro en w9 ⟨_,rfl,⟨p,n,c,rfl,hu1,hu2⟩,hb⟩;rw[decide_eq_true H1.out];exact⟨_,rfl,Ar.of hb hg.1.base,⟨p,n,c,rfl,hu1,hu2⟩,hg.1.later hb,by simpa [upd]using hg.2.later hb⟩
  case refine_5=>
   have k3:Ge e (P-1) (.bool true) (sp 3) w':=(hdp 3 (mq (by kernel_rfl))).2
   (with_reducible refine Af (w1:=w') (v:=sp 3) ?_ ?_ ?_)
   .simp[Region.wanted,yielded,Act.put,go_sem]
   .simp[execOp,Act.eval,Act.put,go_sem]
   .exact⟨Ar.same _ _,k3,hg.1,by simpa [upd]using hg.2⟩
  case refine_6=>
   have hx:∃p n c,sp 4=.tuple #[.agg #[.slice p n c],.bool true]/\Ai w' p n c (P-1)/\P-1<Au (e):=(hdp 4 (mq (by kernel_rfl))).2
   (with_reducible refine Aw hx fun p hx1=>Aw hx1 fun n hx2=>Aw hx2 fun c hx3=>?_)
   have h1:=hx3.1
   (with_reducible refine Af (w1:=w') (v:=.agg #[.slice p n c]) ?_ ?_ ?_)
   .simp[Region.wanted,yielded,Act.put,go_sem]
   .simp[execOp,Act.eval,Act.put,go_sem,h1]
   .exact⟨Ar.same _ _,⟨p,n,c,rfl,hx3.2⟩,hg.1,by simpa [upd]using hg.2⟩
  case refine_7=>
   have hx:∃p n c,sp 4=.tuple #[.agg #[.slice p n c],.bool true]/\Ai w' p n c (P-1)/\P-1<Au (e):=(hdp 4 (mq (by kernel_rfl))).2
   (with_reducible refine Aw hx fun p hx1=>Aw hx1 fun n hx2=>Aw hx2 fun c hx3=>?_)
   have h1:=hx3.1
   with_reducible refine Ad ?_ ?_
   all_goals simp[Region.wanted,yielded,execOp,Act.eval,Act.put,go_sem,h1]
  case refine_8=>
   have h9:D 8=false:=hW 8 (mq (by kernel_rfl));rw[hD,h9]at hg
   (with_reducible refine Af (w1:=w'.alloc (.cells #[.slice none 0 0] 36)) (v:=.pointer (some ⟨w'.heap.size,0,none⟩)) ?_ ?_ ?_)
   .simp[Region.wanted,yielded,Act.put,go_sem]
   .simp[execOp,go_sem]
   .have hb:Below w'.heap.size w' (w'.alloc (.cells #[.slice none 0 0] 36)):=Bw;refine⟨Ar.of hb hg.1.base,trivial,hg.1.later hb,?_⟩;have h8:=hg.2.made;simpa [upd,h9]using h8
  case refine_9=>
   have hx:∃p n c,sp 5=.agg #[.slice p n c]/\Ai w' p n c (P-1)/\P-1<Au (e):=(hdp 5 (mq (by kernel_rfl))).2
   (with_reducible refine Aw hx fun p hx1=>Aw hx1 fun n hx2=>Aw hx2 fun c hx3=>?_)
   have h1:=hx3.1;have h9:D 7=true:=(hdp 7 (mq (by kernel_rfl))).1;rw[h9]at hg
   have hp:=hg.2.put (hx3.2.1)
   (with_reducible refine Aw hp fun b hy0=>Aw hy0 fun q hy1=>Aw hy1 fun m hy2=>Aw hy2 fun k hy3=>?_)
   have h3:=hy3.1;have h6:=hy3.2.2.1.cell;have h7:=hy3.2.2.1.free
   (with_reducible refine An (w1:=w'.setCell ⟨b,0,none⟩ (.slice p n c)) ?_ ?_ ?_)
   .simp[Region.wanted,yielded,Act.put,go_sem]
   .simp[execOp,Act.eval,Act.put,go_sem,h1,h3,h6,h7]
   .refine⟨Ar.store hy3.2.2.1 (Dx HB.out.size hy3.2.1) _,trivial,hg.1.store_over hy3.2.2.1 HB.out.size hy3.2.1 HLT.out _,?_⟩;have h8:=hy3.2.2.2;simpa [upd,h9]using h8
  all_goals ((with_reducible refine Ad ?_ ?_);all_goals first|(simp only[Region.wanted];done)|simp[Region.wanted,yielded,execOp,Act.eval,Act.put,go_sem])
 .intro sp w2 hsp hg;obtain⟨hg1,_,hmk⟩:=hg;obtain⟨b4,e4,hb4,p4,n4,c4,hx4,hn4⟩:=hmk rfl;replace hn4:=hn4 rfl;have HK2:=Ab hg1;have HX4:=Ab hx4;have HN4:=Ab hn4;have HB4:=Ab hb4;have hx4lt:=hx4.lt;obtain⟨c0,cy,c2,c3⟩:=Cp.cells ⟨hg1.of List.mem_cons_self⟩;have cx4:=hx4.cell;have hLP:P-1<Au e:=by have:=HP.out.lim;omega
  have HLP:=Ab hLP;clear hsp hg1 hmk hx4 hn4 hb4 hLP;simp only[Am,Nat.reduceAdd];rw[e4];clear e4;generalize sp 2=y2,sp 3=y3,sp 4=y4,sp 5=y5,sp 8=y8 at *
  go_simp
  go_wp2_with fail
  refine(Ug (Fit.of HN4.out HLP.out) (HQ.out.keep HK2.out.keep) (by have:=H2.out;omega) (by omega) (by omega)).mono ?_;rintro en w3 ⟨_,rfl,⟨p6,n6,c6,p7,n7,c7,rfl,hq6,hq7⟩,hb3⟩;have HK3:=Ab (HK2.out.later hb3);have HQ6:=Ab hq6;have HQ7:=Ab hq7;have hs3:=HB4.out;have HS3:Aa (wa.heap.size<=w3.heap.size):=⟨by have:=hb3.size;have:=hx4lt;omega⟩
  have hb5:Below w3.heap.size w3 ((w3.alloc (.cells #[.slice p6 n6 c6] 36)).alloc (.cells #[.slice p7 n7 c7] 36)):=((Bg _ _).alloc (Av _) _).alloc (by simp) _;have hB6:=Ag.made w3 (.slice p6 n6 c6);have hB7:=Ag.made (w3.alloc (.cells #[.slice p6 n6 c6] 36)) (.slice p7 n7 c7);have hB6':=hB6.below (B:=(w3.alloc (.cells #[.slice p6 n6 c6] 36)).heap.size) ((Bg _ _).alloc (Av _) (.cells #[.slice p7 n7 c7] 36)) (by simp);rw[show (w3.alloc (.cells #[.slice p6 n6 c6] 36)).heap.size=w3.heap.size+1 by simp]at hB7
  obtain⟨w5,hw5⟩:∃w5,(w3.alloc (.cells #[.slice p6 n6 c6] 36)).alloc (.cells #[.slice p7 n7 c7] 36)=w5:=⟨_,rfl⟩
  rw[hw5]at hb5 hB6' hB7
  have HB6:=Ab hB6';have HB7:=Ab hB7;have HK5:=Ab (HK3.out.later hb5);have HQ6':=Ab (HQ6.out.below hb5);have HF7:Aa (Fit e ((P-1)%Q) (.agg #[.slice p7 n7 c7]) w5):=⟨Fit.of (HQ7.out.below hb5) (by have:=Nat.mod_le (P-1) Q;have:=HLP.out;omega)⟩
  have HLQ:Aa ((P-1)/Q<Au e):=⟨Nat.lt_of_le_of_lt (Nat.div_le_self _ _) HLP.out⟩
  have HNE:Aa (∀g∈([(w3.heap.size,.cells #[.slice p6 n6 c6] 36 (0,0)),(w3.heap.size+1,.cells #[.slice p7 n7 c7] 36 (0,0))]:List (Nat×Obj)),g.1≠w.heap.size+1):=⟨List.forall_mem_cons.2 ⟨by simp only;have:=HSZ.out;have:=HS3.out;omega,List.forall_mem_cons.2 ⟨by simp only;have:=HSZ.out;have:=HS3.out;omega,fun g hx=>by cases hx⟩⟩⟩
  have HB0:Aa (w.heap.size<=w.heap.size+1):=⟨by omega⟩
  have HR5:=Ab (HK5.out.of (List.mem_cons_of_mem _ List.mem_cons_self));clear hq6 hq7 hb3 c0 cy c2 c3 cx4 hs3 hb5 hB6 hB6' hB7 hx4lt;go_wp2;refine Al (by kernel_rfl) (by kernel_rfl)
   [some (.agg #[.slice p6 n6 c6]),some (.agg #[.slice p7 n7 c7]),none,none,some (.bool ANS)]
   [false,false,true,true,false] rfl
   (fun w1 w2=>Ar (w.heap.size) w1 w2)
   (fun D sp w'=>RG (w.heap.size) w5 [(w3.heap.size,.cells #[.slice p6 n6 c6] 36 (0,0)),(w3.heap.size+1,.cells #[.slice p7 n7 c7] 36 (0,0))] w'/\Qj (D 3) (w.heap.size+1) ((P-1)/Q) w')
   (fun i v w'=>match i with
    | 2=>v=.bool ANS
    | _=>True)
   ?_ ⟨RG.start HK5.out.base (List.forall_mem_cons.2 ⟨HB6.out,List.forall_mem_cons.2 ⟨HB7.out,fun g hx=>by cases hx⟩⟩),Qj.fresh (show Ag _ _ _ from HR5.out)⟩ ?_ ?_
  .intro i v w1 w2 hf hb;split at hf
   .exact hf
   .trivial
  .simp only[Bb,Nat.reduceAdd];refine⟨?_,?_,?_,?_,?_,trivial⟩
   all_goals intro D sp w' hD hW hdp hg
   case refine_1=>
    have c0:w'.cell? ⟨w3.heap.size,0,none⟩=some (.slice p6 n6 c6):=Ag.cell (hg.1.of List.mem_cons_self)
    with_reducible refine Ad ?_ ?_
    all_goals simp[Region.wanted,yielded,execOp,Act.eval,Act.put,go_sem,c0]
   case refine_2=>
    have c0:w'.cell? ⟨w3.heap.size+1,0,none⟩=some (.slice p7 n7 c7):=Ag.cell (hg.1.of (List.mem_cons_of_mem _ List.mem_cons_self))
    with_reducible refine Ad ?_ ?_
    all_goals simp[Region.wanted,yielded,execOp,Act.eval,Act.put,go_sem,c0]
   case refine_3=>
    (with_reducible refine Ac (w1:=w') (f := 25) (args:=#[.agg #[.slice p7 n7 c7]]) ?_ ?_ ?_)
    .simp[Region.wanted,yielded,Act.put,go_sem]
    .simp[Act.eval,Act.put,go_sem]
    .refine(Sm (HF7.out.keep hg.1.keep)).mono ?_;rintro en w9 ⟨_,rfl,rfl,hb⟩;rw[HANS.out];exact⟨_,rfl,Ar.of hb hg.1.base,rfl,hg.1.later hb,by simpa [upd]using hg.2.later hb⟩
   case refine_4=>
    have hp:=hg.2.put (hg.1.keep.nat _ _ _ _ HQ6'.out)
    (with_reducible refine Aw hp fun q hy1=>Aw hy1 fun m hy2=>Aw hy2 fun k hy3=>?_)
    have h6:=hy3.1.cell;have h7:=hy3.1.free
    (with_reducible refine An (w1:=w'.setCell ⟨w.heap.size+1,0,none⟩ (.slice p6 n6 c6)) ?_ ?_ ?_)
    .simp[Region.wanted,yielded,Act.put,go_sem]
    .simp[execOp,Act.eval,Act.put,go_sem,h6,h7]
    .refine⟨Ar.store hy3.1 HB0.out _,trivial,hg.1.store hy3.1 HB0.out HNE.out _,?_⟩;have h8:=hy3.2;simpa [upd]using h8
   case refine_5=>
    have k2:(sp 2)=.bool ANS:=(hdp 2 (mq (by kernel_rfl))).2
    with_reducible refine Ad ?_ ?_
    all_goals simp[Region.wanted,yielded,execOp,Act.eval,Act.put,go_sem,k2]
  .intro sp w7 hsp hg;obtain⟨hg1,pz,nz,cz,hz1,hz2⟩:=hg;have kz:=hz1.cell;have HZ:=Ab (hz2 rfl);have HE7:=Ab (HB.out.trans (HK5.out.keep.trans hg1.keep).bel);clear hsp hg1 hz1 hz2;simp only[Am,Nat.reduceAdd];generalize sp 2=y2,sp 3=y3 at *
   go_simp
   go_wp2;exact bodyPost_ret (v:=.tuple #[.agg #[.slice pz nz cz],.bool ANS]) (by simp[results,Tryz.results172,go_sem,kz]) rfl ⟨_,rfl,Fit.of HZ.out HLQ.out,HE7.out⟩
theorem pM {n j:Nat}(h:j<8):(Sf n)[j]? = some (n/256^j%256):=by
 unfold Sf;rw[List.getElem?_map,List.getElem?_range h];rfl
theorem dM {w:World}{p:Option Addr}{n c:Nat}(hn:n<9223372036854775808) :
  Calls Tryz.prog 191 #[.slice p n c] w fun en w'=>∃g,en=.returned (.slice (some ⟨g,0,none⟩) 8 8)/\Bl w' g 5 .u8 (Sf n)/\w.heap.size<=g/\Below w.heap.size w w':=by
 have hmk:∀w,(Instr.makeSlice 60 (.int .i64 8) (.int .i64 8)).run Tryz.prog w=.ok (.slice (some ⟨w.heap.size,0,none⟩) 8 8) (w.alloc (.cells (zeros .u8 8) 5)):=fun w=>Ow 8 (by decide) w
 obtain⟨w0,hw0⟩:∃w0,w.alloc (.cells (zeros .u8 8) 5)=w0:=⟨_,rfl⟩
 have hb0:Below w.heap.size w w0:=by rw[<-hw0];exact(Bg _ _).alloc (Av _) _
 have hk0:Bl w0 w.heap.size 5 .u8 (List.replicate 8 0):=by rw[<-hw0];exact heap_alloc_new w _
 have HB0:=Ab hb0;have HK0:=Ab hk0;clear hb0 hk0;go_enter Tryz.func191,Tryz.ntmps191;go_wp2
 go_loopw [4,8] (fun _ iv wr=>∃(k:Nat) (xs:List Nat),k<=8/\iv=.int .i64 k/\xs.length=8/\Aa (Bl wr w.heap.size 5 .u8 xs)/\Aa (∀j,j<k->xs[j]? = some (n/256^j%256))/\Aa (Below w.heap.size w wr)) (fun _ iv _=>8-(intOf iv).toNat)
 case atStart=>exact⟨0,List.replicate 8 0,by omega,rfl,rfl,HK0,⟨fun j hj=>by omega⟩,HB0⟩
 case round=>
  obtain⟨k,xs,hk,rfl,hxs,HKr,HVr,HBr⟩:=hrel
  by_cases hkn:k<8
  .have hkn':(k:Int)<8:=by omega
   have c0:=HKr.out.cell (i:=k) (List.getElem?_eq_getElem (by omega));have f0:=HKr.out.free k;have hv:((n:Int)/2^(8*k)%256)=((n/256^k%256:Nat):Int):=by
    rw[Int.natCast_emod,Int.natCast_ediv,show (256:Nat)^k=2^(8*k) from Ib k,Int.natCast_pow];rfl
   have HV:=Ab hv;have HKn:Aa (Bl (wr.setCell ⟨w.heap.size,k,none⟩ (.int .u8 (n/256^k%256:Nat))) w.heap.size 5 .u8 (xs.set k (n/256^k%256))):=⟨HKr.out.set k _⟩
   have HBn:Aa (Below w.heap.size w (wr.setCell ⟨w.heap.size,k,none⟩ (.int .u8 (n/256^k%256:Nat)))):=⟨HBr.out.setCell (Av _) _⟩
   have HVn:Aa (∀j,j<k+1->(xs.set k (n/256^k%256))[j]? = some (n/256^j%256)):=⟨fun j hj=>by
    rcases Nat.lt_or_ge j k with h|h
    .rw[List.getElem?_set_ne (by omega)];exact HVr.out j h
    .obtain rfl:j=k:=by omega
     exact List.getElem?_set_self (by omega)⟩
   have HXL:Aa ((xs.set k (n/256^k%256)).length=8):=⟨by rw[List.length_set];exact hxs⟩
   clear hv;go_wp2;go_roundw
   case rel=>
    rw[HV.out];exact⟨k+1,_,by omega,by go_num,HXL.out,HKn,HVn,HBn⟩
   case measure=>simp[intOf];omega
  .obtain rfl:k=8:=by omega
   have hkn':¬(8:Int)<8:=by omega
   go_wp2;go_ret;have hx:xs=Sf n:=List.ext_getElem? fun j=>by
    rcases Nat.lt_or_ge j 8 with h|h
    .rw[HVr.out j h,pM h]
    .rw[List.getElem?_eq_none (by omega),List.getElem?_eq_none (by rw[Fd];exact h)]
   exact⟨w.heap.size,rfl,by rw[<-hx];exact HKr.out,Av _,HBr.out⟩
theorem nK {w:World}{b P Q G H n c:Nat}{p:Option Addr}{L:List Part}(hg:Ba w b P Q G H)(hT:Tabs w)(hL:Br w p n c L) :
  Calls Tryz.prog 147 #[.pointer (some ⟨b,0,none⟩),.slice p n c] w fun e w'=>∃x,e=.returned x/\Fit 33 (be (Hy (Cd (L.map (·.bs))))%Q) x w'/\Below w.heap.size w w':=by
 have hb4:=Ag.made w (.slice none 0 0);have hbel:Below w.heap.size w (w.alloc (.cells #[.slice none 0 0] 36)):=Bw;obtain⟨wa,hwa⟩:∃wa,w.alloc (.cells #[.slice none 0 0] 36)=wa:=⟨_,rfl⟩
 rw[hwa]at hb4 hbel
 have HBX:=Ab hb4;have HB:=Ab hbel;have HT:=Ab hT;have hTs:=hT.size;have HL:=Ab hL;have HLN:=Ab hL.len;have hcap:=hL.cap;have hmax:=hL.max;obtain⟨rp,rq,pg,ng,cg,ph,nh,ch,g1,_,g3,_⟩:=hg.ex;have HL2:Aa (b<w.heap.size/\rq<w.heap.size):=⟨hg.lt,g3.at_.lt⟩
 have HGA:=Ab g1;have HRQ:=Ab g3;clear hL hg g1 g3;clear hT hb4 hbel;go_enter Tryz.func147,Tryz.ntmps147
 go_wp2_with fail
 refine(Km wa (HT.out.below HB.out HT.out.size)).mono ?_;rintro en w1 ⟨g,rfl,hg1,hb1,hh1⟩;have HB1:=Ab (Ae HB.out hb1);have HBX1:=Ab (HBX.out.below hb1 HBX.out.lt);have HGL:Aa (w.heap.size<g):=⟨Dj HBX.out.lt hg1⟩
 have HH1:=Ab hh1;clear hb1 hg1 hh1;go_wp2
 go_loopw [7,13] (fun _ iv wr=>∃k:Nat,k<=n/\iv=.int .i64 k/\Aa (Below w.heap.size w wr)/\Aa (Bx wr g (Cd ((L.take k).map (·.bs))))/\Aa (Ag wr w.heap.size (.slice none 0 0))) (fun _ iv _=>n-(intOf iv).toNat)
 case atStart=>exact⟨0,by omega,rfl,HB1,HH1,HBX1⟩
 case round=>
  obtain⟨k,hk,rfl,HBr,HHr,HBXr⟩:=hrel
  by_cases hkn:k<n
  .obtain⟨PP,hP⟩:∃P,L[k]? = some P:=⟨L[k]'(by rw[<-HLN.out];exact hkn),List.getElem?_eq_getElem _⟩
   obtain⟨bb,off,rfl,hbb,hc⟩:=HL.out.cells (by omega);have hok:=HL.out.ok k PP hP;have HNE:Aa (0<PP.n->∀q,PP.p=some q->q.block≠g):=⟨fun h0 q hq=>by
    obtain⟨b',off',e,h2,_⟩:=(hok.row.row h0).pos h0;rw[hq]at e;cases e
    have:=HGL.out;show b'≠g;omega⟩
   have hck:wr.cell? ⟨bb,off+k,none⟩=some (.slice PP.p PP.n PP.c):=by
    rw[(Bz HBr.out).1 _ _ hbb];exact hc k PP hP
   have HTK:Aa (Cd ((L.take (k+1)).map (·.bs))=Cd ((L.take k).map (·.bs))++(Sf PP.n++PP.bs)):=⟨by
    rw[Gh hP,List.map_append];show Cd ((L.take k).map (·.bs)++[PP.bs])=_;rw[Lr,hok.row.len]⟩
   have HOK:=Ab hok;have hPn:PP.n<9223372036854775808:=by have h1:=hok.row.cap;have h2:=hok.row.max;omega
   have hkn':(k:Int)<n:=by omega
   clear hc hok hP hbb;obtain⟨pp,pn,pc,pb⟩:=PP
   dsimp only at *
   go_wp2_with fail
   refine(dM hPn).mono ?_;rintro en w2 ⟨gl,rfl,hkl,hgl,hb2⟩;have HR2:Aa (Bd w2 .u8 (some ⟨gl,0,none⟩) 8 8 (Sf pn)):=⟨⟨(Fd pn).symm,Av _,by decide,fun _=>hkl.row (Fd pn).symm (Av _) (by decide)⟩⟩
   have HH2:=Ab (HHr.out.below hb2 HHr.out.lt);have HBr2:=Ab (HBr.out.trans (hb2.mono HBr.out.size));have HBXr2:=Ab (HBXr.out.below hb2 HBXr.out.lt);have HNL:Aa (0<8->∀q,(some ⟨gl,0,none⟩:Option Addr)=some q->q.block≠g):=⟨fun _ q hq=>by
    cases hq;have:=HHr.out.lt;show gl≠g;omega⟩
   clear hkl hgl hb2 hck
   go_wp2_with fail
   refine(Ej w2 g _ (some ⟨gl,0,none⟩) 8 8 (Sf pn) (HT.out.below HBr2.out HT.out.size) HH2.out (by have:=HGL.out;omega) HR2.out (Wl pn) HNL.out).mono ?_;rintro en w3 ⟨rfl,hb3,hh3⟩;have HH3:=Ab hh3;have HBr3:=Ab (HBr2.out.trans (hb3.below (Nat.le_of_lt HGL.out) HBr2.out.size));have HBXr3:Aa (Ag w3 w.heap.size (.slice none 0 0)):=⟨(hb3.block _ HBXr2.out.lt (by have:=HGL.out;omega)).trans HBXr2.out⟩
   clear hh3 hb3
   go_wp2_with fail
   refine(Ej w3 g _ pp pn pc pb (HT.out.below HBr3.out HT.out.size) HH3.out (by have:=HGL.out;omega) (HOK.out.row.below HBr3.out) HOK.out.bytes HNE.out).mono ?_;rintro en w4 ⟨rfl,hb4,hh4⟩;rw[List.append_assoc,<-HTK.out]at hh4
   have HH4:=Ab hh4;have HBr4:=Ab (HBr3.out.trans (hb4.below (Nat.le_of_lt HGL.out) HBr3.out.size));have HBXr4:Aa (Ag w4 w.heap.size (.slice none 0 0)):=⟨(hb4.block _ HBXr3.out.lt (by have:=HGL.out;omega)).trans HBXr3.out⟩
   clear hh4 hb4;go_wp2;go_roundw
   case rel=>exact⟨k+1,by omega,by go_num,HBr4,HH4,HBXr4⟩
   case measure=>simp[intOf];omega
  .obtain rfl:k=n:=by omega
   have hkn':¬(k:Int)<k:=by omega
   have hhr:=HHr.out;rw[List.take_of_length_le (by rw[<-HLN.out];exact Av _)]at hhr
   replace HHr:Aa _:=⟨hhr⟩
   clear hhr;obtain⟨MQ,hMQ⟩:∃M,Cd (L.map (·.bs))=M:=⟨_,rfl⟩
   rw[hMQ]at HHr
   have HMQ:=Ab hMQ;clear hMQ
   go_wp2_with fail
   refine(Ku wr g _ (HT.out.below HBr.out HT.out.size) HHr.out).mono ?_;rintro en w5 ⟨q,rfl,hq,hb5,hk5⟩;obtain⟨SS,hSS⟩:∃S,Hy MQ=S:=⟨_,rfl⟩
   have hSl:SS.length=32:=by rw[<-hSS];exact Cb _
   have hS8:Ay SS:=by rw[<-hSS];exact Ev _
   rw[hSS]at hk5
   have hrow:Bd w5 .u8 (some ⟨q,0,none⟩) 32 32 SS:=⟨hSl.symm,Av _,by decide,fun _=>hk5.row hSl.symm (Av _) (by decide)⟩
   have HROW:=Ab hrow;have HS8:=Ab hS8;have HSl:=Ab hSl;have HSS:=Ab hSS;have HB5:=Ab (HBr.out.trans (hb5.mono HBr.out.size));have HBX5:=Ab (HBXr.out.below hb5 HBXr.out.lt);clear hq hb5 hk5 hSS hSl hS8 hrow
   go_wp2_with fail
   refine(Cm w5 _ 32 32 SS HROW.out HS8.out (by decide)).mono ?_;rintro en w6 ⟨q2,m2,d2,rfl,hq2,hb6,_⟩;obtain⟨XX,hXX⟩:∃X,be SS=X:=⟨_,rfl⟩
   rw[hXX]at hq2
   have hb7:Below w6.heap.size w6 (w6.alloc (.cells #[.slice q2 m2 d2] 36)):=Bw;have hX7:=Ag.made w6 (.slice q2 m2 d2);obtain⟨w7,hw7⟩:∃w7,w6.alloc (.cells #[.slice q2 m2 d2] 36)=w7:=⟨_,rfl⟩
   rw[hw7]at hb7 hX7
   have hb57:=Ae hb6 hb7;have HNf:Aa (Fit 8 XX (.agg #[.slice q2 m2 d2]) w7):=⟨Fit.of (hq2.below hb7) (by
    rw[<-hXX];have:=HS8.out.reverse.lt;rw[List.length_reverse,HSl.out]at this
    exact Dj this (by decide))⟩
   have HX7:=Ab hX7;have HB7:=Ab (Ae HB5.out hb57);have HBX7:=Ab (HBX5.out.below hb57 HBX5.out.lt);have HNE:Aa (∀x∈([(w6.heap.size,.cells #[.slice q2 m2 d2] 36 (0,0))]:List (Nat×Obj)),x.1≠w.heap.size):=⟨List.forall_mem_cons.2 ⟨by simp only;have h1:=HBX5.out.lt;have h2:=hb6.size;omega,fun x hx=>by cases hx⟩⟩
   have HGr:=Ab ((HB7.out.block b HL2.out.1).trans HGA.out);have HRq:=Ab (HRQ.out.below HB7.out);have HVL:Aa (XX%Q<Au 33):=⟨Nat.lt_trans (Nat.mod_lt _ (by have:=HRQ.out.two;omega)) HRQ.out.lim⟩
   have HXX:Aa (be (Hy MQ)%Q=XX%Q):=⟨by rw[HSS.out,hXX]⟩
   clear hq2 hb6 hb7 hX7 hb57 hXX;go_wp2;refine Al (by kernel_rfl) (by kernel_rfl)
    [some (.pointer (some ⟨b,0,none⟩)),none,some (.pointer (some ⟨b,0,none⟩)),some (.pointer (some ⟨b,1,none⟩)),some (.pointer (some ⟨rq,0,none⟩)),some (.agg #[.slice q2 m2 d2]),none,none]
    [false,true,false,false,false,false,true,true] rfl
    (fun wA wB=>Ar (w.heap.size) wA wB)
    (fun D sp w'=>RG (w.heap.size) w7 [(w6.heap.size,.cells #[.slice q2 m2 d2] 36 (0,0))] w'/\Qj (D 7) (w.heap.size) (XX%Q) w')
    (fun i v w'=>match i with
     | 1=>v=.pointer (some ⟨b,0,none⟩)
     | 6=>Fit 33 (XX%Q) v w'
     | _=>True)
    ?_ ⟨RG.start HB7.out.size (List.forall_mem_cons.2 ⟨HX7.out,fun x hx=>by cases hx⟩),Qj.fresh HBX7.out⟩ ?_ ?_
   .intro i v wA wB hf hb;split at hf
    .exact hf
    .exact hf.keep hb
    .trivial
   .simp only[Bb,Nat.reduceAdd];refine⟨?_,?_,?_,?_,?_,?_,?_,?_,trivial⟩
    all_goals intro D sp w' hD hW hdp hg
    case refine_2=>
     (with_reducible refine Ac (w1:=w') (f := 72) (args:=#[.pointer (some ⟨b,0,none⟩)]) ?_ ?_ ?_)
     .simp[Region.wanted,yielded,Act.put,go_sem]
     .simp[Act.eval,Act.put,go_sem]
     .refine(Ek w' b).mono ?_;rintro en w9 ⟨rfl,rfl⟩;exact⟨_,rfl,Ar.same _ _,rfl,hg.1,by simpa [upd]using hg.2⟩
    case refine_3=>
     have k1:(sp 1)=.pointer (some ⟨b,0,none⟩):=(hdp 1 (mq (by kernel_rfl))).2
     with_reducible refine Ad ?_ ?_
     all_goals simp[Region.wanted,yielded,execOp,Act.eval,Act.put,go_sem,k1]
    case refine_5=>
     have c0:=(Cw ((hg.1.keep.bel.block b HL2.out.1).trans HGr.out)).2.1
     with_reducible refine Ad ?_ ?_
     all_goals simp[Region.wanted,yielded,execOp,Act.eval,Act.put,go_sem,c0]
    case refine_6=>
     have c0:w'.cell? ⟨w6.heap.size,0,none⟩=some (.slice q2 m2 d2):=Ag.cell (hg.1.of List.mem_cons_self)
     with_reducible refine Ad ?_ ?_
     all_goals simp[Region.wanted,yielded,execOp,Act.eval,Act.put,go_sem,c0]
    case refine_7=>
     (with_reducible refine Ac (w1:=w') (f := 31) (args:=#[.pointer (some ⟨rq,0,none⟩),.agg #[.slice q2 m2 d2]]) ?_ ?_ ?_)
     .simp[Region.wanted,yielded,Act.put,go_sem]
     .simp[Act.eval,Act.put,go_sem]
     .refine(Fy (HRq.out.keep HL2.out.2 hg.1.keep) (HNf.out.keep hg.1.keep) (by decide)).mono ?_;rintro en w9 ⟨u,rfl,hu,hb⟩;exact⟨u,rfl,Ar.of hb hg.1.base,hu,hg.1.later hb,by simpa [upd]using hg.2.later hb⟩
    case refine_8=>
     have hx:∃p n c,sp 6=.agg #[.slice p n c]/\Ai w' p n c (XX%Q)/\XX%Q<Au (33):=(hdp 6 (mq (by kernel_rfl))).2
     (with_reducible refine Aw hx fun p hx1=>Aw hx1 fun n hx2=>Aw hx2 fun c hx3=>?_)
     have h1:=hx3.1;have hp:=hg.2.put (hx3.2.1)
     (with_reducible refine Aw hp fun q hy1=>Aw hy1 fun m hy2=>Aw hy2 fun k hy3=>?_)
     have h6:=hy3.1.cell;have h7:=hy3.1.free
     (with_reducible refine An (w1:=w'.setCell ⟨w.heap.size,0,none⟩ (.slice p n c)) ?_ ?_ ?_)
     .simp[Region.wanted,yielded,Act.put,go_sem]
     .simp[execOp,Act.eval,Act.put,go_sem,h1,h6,h7]
     .refine⟨Ar.store hy3.1 (Av _) _,trivial,hg.1.store hy3.1 (Av _) HNE.out _,?_⟩;have h8:=hy3.2;simpa [upd]using h8
    all_goals ((with_reducible refine Ad ?_ ?_);all_goals first|(simp only[Region.wanted];done)|simp[Region.wanted,yielded,execOp,Act.eval,Act.put,go_sem])
   .intro sp w8 hsp hg;obtain⟨hg1,pz,nz,cz,hz1,hz2⟩:=hg;have kz:=hz1.cell;have HZ:=Ab (hz2 rfl);have HE:=Ab (HB7.out.trans hg1.keep.bel);clear hsp hg1 hz1 hz2;simp only[Am,Nat.reduceAdd];generalize sp 1=y1,sp 6=y6,sp 7=y7 at *
    go_simp
    go_wp2;exact bodyPost_ret (v:=.agg #[.slice pz nz cz]) (by simp[results,Tryz.results147,go_sem,kz]) rfl ⟨_,rfl,by rw[HMQ.out,HXX.out];exact Fit.of HZ.out HVL.out,HE.out⟩
theorem mM {M N:Nat}(hM:2<=M):∀(R D O X:Nat) (neg:Bool),Po M N D R O X neg->∃Y,Mo M N Y:=by
 intro R
 induction R using Nat.strongRecOn with
 | _ R ih=>
  intro D O X neg h;rcases Nat.eq_zero_or_pos R with h0|h0
  .subst h0;have h1:=h.done hM
   by_cases hD:D=1
   .exact⟨_,h1.2 hD⟩
   .exact⟨0,fun hg=>absurd (h1.1.trans hg) hD,fun _=>rfl⟩
  .exact ih (D%R) (Nat.mod_lt _ h0) _ _ _ _ (h.step h0)
theorem dP {M:Nat}(hM:2<=M)(N:Nat):∃Y,Mo M N Y:=mM hM _ _ _ _ _ (Po.start (M:=M) (N:=N) (by omega))
noncomputable def dQ (M N:Nat):Nat:=Classical.epsilon fun Y=>Mo M N Y
theorem Yd {M:Nat}(hM:2<=M)(N:Nat):Mo M N (dQ M N):=Classical.epsilon_spec (dP hM N)
theorem pO {M N X:Nat}(hM:2<=M)(h:Mo M N X):X=dQ M N:=h.uniq (Yd hM N)
attribute [local go_sem] Oper.semAt_some
structure Rw (w:World) (e:Nat) (us:List (Option Addr×Nat×Nat)) (Ns:List Nat):Prop where
 len:us.length=Ns.length
 at_:∀(i N:Nat),Ns[i]? = some N->∃x,us[i]? = some x/\Er w x N/\N<Au e
theorem Wc {P Q g:Nat}(h:g^Q%P=1%P)(a:Nat):g^a%P=g^(a%Q)%P:=by
 have h1:a=Q*(a/Q)+a%Q:=(Nat.div_add_mod a Q).symm;have h2:g^(Q*(a/Q))%P=1%P:=by
  rw[Nat.pow_mul,Nat.pow_mod,h,<-Nat.pow_mod,Nat.one_pow]
 rw[show g^a=g^(Q*(a/Q))*g^(a%Q) by rw[<-Nat.pow_add,<-h1],Nat.mul_mod,h2,<-Nat.mul_mod,Nat.one_mul]
theorem gV {P Q g a b:Nat}(h:g^Q%P=1%P)(hab:a%Q=b%Q):g^a%P=g^b%P:=by
 rw[Wc h a,Wc h b,hab]
theorem Rw.snoc {w:World}{e N:Nat}{us:List (Option Addr×Nat×Nat)}{Ns:List Nat}{x:Option Addr×Nat×Nat}(h:Rw w e us Ns)(hx:Er w x N)(hl:N<Au e):Rw w e (us++[x]) (Ns++[N]):=by
 refine⟨by simp[h.len],fun i M hM=>?_⟩;rcases Nat.lt_or_ge i Ns.length with hi|hi
 .rw[List.getElem?_append_left hi]at hM
  obtain⟨y,h1,h2⟩:=h.at_ i M hM
  exact⟨y,by rw[List.getElem?_append_left (by rw[h.len];exact hi)];exact h1,h2⟩
 .rw[List.getElem?_append_right hi]at hM
  obtain⟨t,ht⟩:∃t,i-Ns.length=t:=⟨_,rfl⟩
  rw[ht]at hM
  cases t with
  | zero=>
   simp at hM;subst hM;exact⟨x,by rw[List.getElem?_append_right (by rw[h.len];exact hi),h.len,ht];rfl,hx,hl⟩
  | succ t=>simp at hM
theorem Rw.nil (w:World)(e:Nat):Rw w e [] []:=⟨rfl,fun i N hN=>by simp at hN⟩
structure TB (W:World) (N1 N2:Nat) (d3 d7 d8 d9 d10 d11:Bool) (v3 v7 v8 v9:Value) (w:World):Prop where
 bel:Below W.heap.size W w
 p3:d3=true->Fit 33 N1 v3 w
 p7:d7=true->Fit 33 N2 v7 w
 b8:d8=true->∃b,v8=.pointer (some ⟨b,0,none⟩)/\W.heap.size<=b/\Qj d10 b N1 w/\(d9=true->v9≠v8)
 b9:d9=true->∃b,v9=.pointer (some ⟨b,0,none⟩)/\W.heap.size<=b/\Qj d11 b N2 w/\(d8=true->v8≠v9)
 o10:d10=true->d8=true
 o11:d11=true->d9=true
section
variable {W:World} {N1 N2:Nat} {d3 d7 d8 d9 d10 d11:Bool} {v3 v7 v8 v9:Value} {w:World}
theorem TB.start:TB W N1 N2 false false false false false false v3 v7 v8 v9 W.drew :=
 ⟨(Bg _ _).drew,(fun e=>by cases e),(fun e=>by cases e),(fun e=>by cases e),(fun e=>by cases e),(fun e=>by cases e),fun e=>by cases e⟩
theorem TB.later {w':World}(h:TB W N1 N2 d3 d7 d8 d9 d10 d11 v3 v7 v8 v9 w)(hb:Below w.heap.size w w'):TB W N1 N2 d3 d7 d8 d9 d10 d11 v3 v7 v8 v9 w' :=
 ⟨Ae h.bel hb,fun e=>(h.p3 e).below hb,fun e=>(h.p7 e).below hb,fun e=>let ⟨b,h1,h2,h3,h4⟩:=h.b8 e;⟨b,h1,h2,h3.later hb,h4⟩,fun e=>let ⟨b,h1,h2,h3,h4⟩:=h.b9 e;⟨b,h1,h2,h3.later hb,h4⟩,h.o10,h.o11⟩
theorem TB.put3 (h:TB W N1 N2 d3 d7 d8 d9 d10 d11 v3 v7 v8 v9 w){u:Value}(hu:Fit 33 N1 u w):TB W N1 N2 true d7 d8 d9 d10 d11 u v7 v8 v9 w:=⟨h.bel,fun _=>hu,h.p7,h.b8,h.b9,h.o10,h.o11⟩
theorem TB.put7 (h:TB W N1 N2 d3 d7 d8 d9 d10 d11 v3 v7 v8 v9 w){u:Value}(hu:Fit 33 N2 u w):TB W N1 N2 d3 true d8 d9 d10 d11 v3 u v8 v9 w:=⟨h.bel,h.p3,fun _=>hu,h.b8,h.b9,h.o10,h.o11⟩
theorem TB.lt8 (h:TB W N1 N2 d3 d7 true d9 d10 d11 v3 v7 v8 v9 w):v8≠.pointer (some ⟨w.heap.size,0,none⟩):=by
 obtain⟨b,h1,h2,⟨p,n,c,h3,_⟩,h4⟩:=h.b8 rfl;have:=h3.lt;rw[h1];intro e;simp only[Value.pointer.injEq,Option.some.injEq,Addr.mk.injEq,and_true]at e;omega
theorem TB.lt9 (h:TB W N1 N2 d3 d7 d8 true d10 d11 v3 v7 v8 v9 w):v9≠.pointer (some ⟨w.heap.size,0,none⟩):=by
 obtain⟨b,h1,h2,⟨p,n,c,h3,_⟩,h4⟩:=h.b9 rfl;have:=h3.lt;rw[h1];intro e;simp only[Value.pointer.injEq,Option.some.injEq,Addr.mk.injEq,and_true]at e;omega
theorem TB.no10 (h:TB W N1 N2 d3 d7 false d9 d10 d11 v3 v7 v8 v9 w):d10=false:=by
 cases d10 with
 | false=>rfl
 | true=>have:=h.o10 rfl;cases this
theorem TB.no11 (h:TB W N1 N2 d3 d7 d8 false d10 d11 v3 v7 v8 v9 w):d11=false:=by
 cases d11 with
 | false=>rfl
 | true=>have:=h.o11 rfl;cases this
theorem TB.put8 (h:TB W N1 N2 d3 d7 false d9 false d11 v3 v7 v8 v9 w):TB W N1 N2 d3 d7 true d9 false d11 v3 v7 (.pointer (some ⟨w.heap.size,0,none⟩)) v9 (w.alloc (.cells #[.slice none 0 0] 36)):=by
 have hb:Below w.heap.size w (w.alloc (.cells #[.slice none 0 0] 36)):=Bw;have hk:=h.later hb;refine⟨hk.bel,hk.p3,hk.p7,fun _=>⟨w.heap.size,rfl,h.bel.size,Qj.fresh (Ag.made _ _),fun e=>by subst e;exact h.lt9⟩,fun e=>?_,(fun e=>by cases e),h.o11⟩;obtain⟨b,h1,h2,h3,h4⟩:=hk.b9 e;exact⟨b,h1,h2,h3,fun _=>by subst e;exact fun k=>h.lt9 k.symm⟩
theorem TB.put9 (h:TB W N1 N2 d3 d7 d8 false d10 false v3 v7 v8 v9 w):TB W N1 N2 d3 d7 d8 true d10 false v3 v7 v8 (.pointer (some ⟨w.heap.size,0,none⟩)) (w.alloc (.cells #[.slice none 0 0] 36)):=by
 have hb:Below w.heap.size w (w.alloc (.cells #[.slice none 0 0] 36)):=Bw;have hk:=h.later hb;refine⟨hk.bel,hk.p3,hk.p7,fun e=>?_,fun _=>⟨w.heap.size,rfl,h.bel.size,Qj.fresh (Ag.made _ _),fun e=>by subst e;exact h.lt8⟩,h.o10,fun e=>by cases e⟩;obtain⟨b,h1,h2,h3,h4⟩:=hk.b8 e;exact⟨b,h1,h2,h3,fun _=>by subst e;exact fun k=>h.lt8 k.symm⟩
theorem TB.put10 (h:TB W N1 N2 true d7 true d9 false d11 v3 v7 v8 v9 w):∃(b m d:Nat) (q p:Option Addr) (n c:Nat),v8=.pointer (some ⟨b,0,none⟩)/\v3=.agg #[.slice p n c]/\Ag w b (.slice q m d)/\TB W N1 N2 true d7 true d9 true d11 v3 v7 v8 v9 (w.setCell ⟨b,0,none⟩ (.slice p n c)):=by
 obtain⟨b,h1,h2,h3,h4⟩:=h.b8 rfl;obtain⟨p,n,c,e3,k1,k2⟩:=h.p3 rfl;obtain⟨q,m,d,k3,k4⟩:=h3.put k1;refine⟨b,m,d,q,p,n,c,h1,e3,k3,h.bel.setCell h2 _,fun _=>(show Fit 33 N1 v3 w from ⟨p,n,c,e3,k1,k2⟩).keep (Ar.store k3 h2 _),fun e=>(h.p7 e).keep (Ar.store k3 h2 _),fun _=>⟨b,h1,h2,k4,h4⟩,fun e=>?_,fun _=>rfl,h.o11⟩;obtain⟨b',g1,g2,g3,g4⟩:=h.b9 e;exact⟨b',g1,g2,g3.other k3 (fun x=>g4 rfl (by rw[h1,g1,x])) _,g4⟩
theorem TB.put11 (h:TB W N1 N2 d3 true d8 true d10 false v3 v7 v8 v9 w):∃(b m d:Nat) (q p:Option Addr) (n c:Nat),v9=.pointer (some ⟨b,0,none⟩)/\v7=.agg #[.slice p n c]/\Ag w b (.slice q m d)/\TB W N1 N2 d3 true d8 true d10 true v3 v7 v8 v9 (w.setCell ⟨b,0,none⟩ (.slice p n c)):=by
 obtain⟨b,h1,h2,h3,h4⟩:=h.b9 rfl;obtain⟨p,n,c,e3,k1,k2⟩:=h.p7 rfl;obtain⟨q,m,d,k3,k4⟩:=h3.put k1;refine⟨b,m,d,q,p,n,c,h1,e3,k3,h.bel.setCell h2 _,fun e=>(h.p3 e).keep (Ar.store k3 h2 _),fun _=>(show Fit 33 N2 v7 w from ⟨p,n,c,e3,k1,k2⟩).keep (Ar.store k3 h2 _),fun e=>?_,fun _=>⟨b,h1,h2,k4,h4⟩,h.o10,fun _=>rfl⟩;obtain⟨b',g1,g2,g3,g4⟩:=h.b8 e;exact⟨b',g1,g2,g3.other k3 (fun x=>g4 rfl (by rw[h1,g1,x])) _,g4⟩
end
open Go Go.RowKit
def fP (Q x:Nat)(msg:List Nat):Nat:=be ((Ey (As x (Ak Q)) msg ((64+31)/32)).take 64)
def Rt (Q x:Nat)(msg:List Nat):Nat:=if fP Q x msg%Q=0 then 1 else fP Q x msg%Q
noncomputable def Pv (P G y c s:Nat):Nat:=G^s%P*(dQ P y^c%P)%P
def Hs (Q:Nat)(sig:List Nat):Prop:=sig.length=2*Ak Q/\be (sig.take (Ak Q))<Q/\be (sig.drop (Ak Q))<Q
def Cj (P Q y:Nat):Prop:=0<y/\y<P/\y^Q%P=1
theorem fT {N n:Nat}(h:N<B8 n):be (As N n)=N:=by
 unfold be As;rw[List.reverse_reverse,Se,Nat.mod_eq_of_lt h]
theorem pI {P Q y:Nat}(hQ:0<Q)(h:y^Q%P=1):Nat.gcd P y=1:=by
 have h1:Nat.gcd P y ∣ y^Q:=Nat.dvd_trans (Nat.gcd_dvd_right _ _) (Nat.dvd_trans (by rw[Nat.pow_one];exact Nat.dvd_refl _) (Nat.pow_dvd_pow y (show 1<=Q from hQ)));have h2:Nat.gcd P y ∣ P*(y^Q/P):=Nat.dvd_trans (Nat.gcd_dvd_left _ _) (Nat.dvd_mul_right _ _);have h3:=Nat.div_add_mod (y^Q) P;rw[h]at h3
 have h5:y^Q-P*(y^Q/P)=1:=by omega
 have h4:Nat.gcd P y ∣ y^Q-P*(y^Q/P):=Nat.dvd_sub h1 h2;rw[h5]at h4
 exact Nat.dvd_one.1 h4
theorem Sg {P Q G:Nat}(hP:2<=P)(hQ:0<Q)(hG:G^Q%P=1)(x:Nat):Cj P Q (G^x%P):=by
 have h1:(G^x%P)^Q%P=1:=by
  rw[<-Nat.pow_mod,<-Nat.pow_mul,Nat.mul_comm,Nat.pow_mul,Nat.pow_mod,hG,Nat.one_pow,Nat.mod_eq_of_lt (by omega)]
 refine⟨Nat.pos_of_ne_zero fun h=>?_,Nat.mod_lt _ (by omega),h1⟩;rw[h,Nat.zero_pow hQ,Nat.zero_mod]at h1
 omega
theorem Zn {P Q G x k c:Nat}(hP:2<=P)(hQ:0<Q)(hG:G^Q%P=1):Pv P G (G^x%P) c ((k+c*x%Q)%Q)=G^k%P:=by
 have hG1:G^Q%P=1%P:=by rw[hG,Nat.mod_eq_of_lt (by omega)]
 have hi:=(Yd hP (G^x%P)).1 (pI hQ (Sg hP hQ hG x).2.2);obtain⟨Z,hZ⟩:∃Z,dQ P (G^x%P)=Z:=⟨_,rfl⟩
 unfold Pv;rw[hZ]at hi ⊢
 have h2:G^((k+c*x%Q)%Q)%P=G^(k+c*x)%P:=gV hG1 (by rw[Nat.mod_mod,Nat.add_mod_mod]);rw[h2,<-Nat.mul_mod,Nat.pow_add,Nat.mul_assoc,Nat.mul_comm c x,Nat.pow_mul,<-Nat.mul_pow,Nat.mul_mod,Nat.pow_mod (G^x*Z),Nat.mul_comm (G^x) Z,<-Nat.mul_mod_mod Z,hi.2,<-Nat.pow_mod,Nat.one_pow,<-Nat.mul_mod,Nat.mul_one]
theorem rI {Q c s:Nat}(hc:c<Q)(hs:s<Q):Hs Q (As c (Ak Q)++As s (Ak Q))/\be ((As c (Ak Q)++As s (Ak Q)).take (Ak Q))=c/\be ((As c (Ak Q)++As s (Ak Q)).drop (Ak Q))=s:=by
 have hl:=Eu Q;have h1:(As c (Ak Q)++As s (Ak Q)).take (Ak Q)=As c (Ak Q):=by
  rw[List.take_append_of_le_length (by rw[Bq];exact Av _),List.take_of_length_le (by rw[Bq];exact Av _)]
 have h2:(As c (Ak Q)++As s (Ak Q)).drop (Ak Q)=As s (Ak Q):=by
  rw[List.drop_append_of_le_length (by rw[Bq];exact Av _),List.drop_of_length_le (by rw[Bq];exact Av _),List.nil_append]
 have e1:be (As c (Ak Q))=c:=fT (by omega);have e2:be (As s (Ak Q))=s:=fT (by omega);unfold Hs;rw[h1,h2,e1,e2];exact⟨⟨by rw[List.length_append,Bq,Bq];omega,hc,hs⟩,rfl,rfl⟩
theorem oX {Q x:Nat}{msg:List Nat}(hQ:2<=Q):Rt Q x msg<Q:=by
 unfold Rt;split
 .omega
 .exact Nat.mod_lt _ (by omega)
structure KN (B:Nat) (w w':World):Prop where
 k:Ar B w w'
 blk:∀(g:Nat) (o:Obj),w.heap[g]? = some o->(∀q m d,o≠.cells #[.slice q m d] 36 (0,0))->w'.heap[g]? = some o
theorem KN.of {B:Nat}{w w':World}(h:Below w.heap.size w w')(hB:B<=w.heap.size):KN B w w':=⟨Ar.of h hB,fun g o ho _=>by rw[h.block g (Ep ho).1];exact ho⟩
theorem KN.same (B:Nat)(w:World):KN B w w:=⟨Ar.same _ _,fun _ _ h _=>h⟩
theorem KN.store {B b m d:Nat}{q:Option Addr}{w:World}(hb:Ag w b (.slice q m d))(hB:B<=b)(v:Value):KN B w (w.setCell ⟨b,0,none⟩ v):=⟨Ar.store hb hB v,fun g o ho hn=>by
 have hne:g≠b:=fun e=>by
  subst e;unfold Ag at hb;rw[hb]at ho
  cases ho;exact hn _ _ _ rfl
 simp[World.setCell,Array.getElem?_modify,hne.symm];exact ho⟩
theorem Fit.kn {e N B:Nat}{v:Value}{w w':World}(h:Fit e N v w)(k:KN B w w'):Fit e N v w':=h.keep k.k
theorem Ge.kn {e N B:Nat}{t v:Value}{w w':World}(h:Ge e N t v w)(k:KN B w w'):Ge e N t v w':=h.keep k.k
theorem Ring.kn {B r M f:Nat}{w w':World}(h:Ring w r M f)(k:KN B w w'):Ring w' r M f:=by
 obtain⟨p,n,c,h1,h2,h3⟩:=h.at_.ex
 exact⟨⟨p,n,c,k.blk _ _ h1 (fun _ _ _=>by simp),k.k.nat _ _ _ _ h2,h3⟩,h.two,h.lim,h.few⟩
def Uz (Q:Nat)(v:Value)(w:World):Prop:=(∃b P G H,v=.pointer (some ⟨b,0,none⟩)/\Ba w b P Q G H) ∨ (v=.pointer none/\Q=0)
theorem Uz.below {Q:Nat}{v:Value}{w w':World}(h:Uz Q v w)(hb:Below w.heap.size w w'):Uz Q v w':=by
 rcases h with ⟨b,P,G,H,h1,h2⟩|h
 .exact .inl ⟨b,P,G,H,h1,h2.below hb⟩
 .exact .inr h
theorem Uz.of {w:World}{b P Q G H:Nat}(h:Ba w b P Q G H):Uz Q (.pointer (some ⟨b,0,none⟩)) w:=.inl ⟨b,P,G,H,rfl,h⟩
structure sM (B:Nat) (w:World) (Q:Nat) (v:Value):Prop where
 ex:∃w0,Uz Q v w0/\w0.heap.size<=B/\Ar B w0 w
theorem sM.of {B:Nat}{w w':World}{Q:Nat}{v:Value}(h:Uz Q v w)(hB:w.heap.size<=B)(k:Below w.heap.size w w')(hB2:B<=w.heap.size:=by exact Av _):sM B w' Q v:=⟨w,h,hB,Ar.of k hB2⟩
theorem sM.keep {B:Nat}{w w':World}{Q:Nat}{v:Value}(h:sM B w Q v)(k:Ar B w w'):Uz Q v w':=by
 obtain⟨w0,h1,h2,h3⟩:=h.ex;rcases h1 with ⟨b,P,G,H,h4,h5⟩|h4
 .exact .inl ⟨b,P,G,H,h4,h5.keep h2 (h3.trans k)⟩
 .exact .inr h4
def RQ (Q:Nat)(v:Value)(w:World):Prop:=(∃r,v=.pointer (some ⟨r,0,none⟩)/\Ring w r Q 33) ∨ (v=.pointer none/\Q=0)
theorem RQ.kn {Q B:Nat}{v:Value}{w w':World}(h:RQ Q v w)(k:KN B w w'):RQ Q v w':=by
 rcases h with ⟨r,h1,h2⟩|h
 .exact .inl ⟨r,h1,h2.kn k⟩
 .exact .inr h
theorem Nr {w:World}{Q:Nat}{g0:Value}(h:Uz Q g0 w) :
  Calls Tryz.prog 19 #[g0] w fun en w'=>∃x,en=.returned x/\RQ Q x w'/\Below w.heap.size w w':=by
 rcases h with ⟨b,P,G,H,rfl,h2⟩|⟨rfl,rfl⟩
 .refine(Kw h2).mono ?_;rintro en w' ⟨r,rfl,hr,hb⟩;exact⟨_,rfl,.inl ⟨r,rfl,hr⟩,hb⟩
 .refine(dR w).mono ?_;rintro en w' ⟨rfl,hb⟩;exact⟨_,rfl,.inr ⟨rfl,rfl⟩,hb⟩
theorem Zu {w:World}{Q:Nat}{r0:Value}(h:RQ Q r0 w) :
  Calls Tryz.prog 56 #[r0] w fun en w'=>∃x,en=.returned x/\Fit 33 Q x w'/\Below w.heap.size w w':=by
 rcases h with ⟨r,rfl,h2⟩|⟨rfl,rfl⟩
 .exact Ee h2
 .refine(Qz w).mono ?_;rintro en w' ⟨rfl,hb⟩;exact⟨_,rfl,Fit.of (Ai.nil _) (by decide),hb⟩
theorem nI {N M:Nat}:Bp N M<0 ↔ N<M:=by
 unfold Bp;split
 .simp_all
 .split<;>simp_all<;>omega
theorem rO {N:Nat}(h:N<Au 33):Ap N<=1056:=by
 have:=Fs h;omega
theorem Ff {w:World}{Q:Nat}{g0:Value}(h:Uz Q g0 w) :
  Calls Tryz.prog 144 #[g0] w fun en w'=>en=.returned (.int .i64 (Ak Q:Nat))/\Below w.heap.size w w':=by
 have HQ:=Ab h;clear h;go_enter Tryz.func144,Tryz.ntmps144
 go_wp2_with fail
 refine(Nr HQ.out).mono ?_;rintro en w1 ⟨r0,rfl,hr,hb1⟩;have HR:=Ab hr;have HB1:=Ab hb1;clear hr hb1
 go_wp2_with fail
 refine(Zu HR.out).mono ?_;rintro en w2 ⟨_,rfl,⟨p,n,c,rfl,h1,h2⟩,hb2⟩;have HN:=Ab h1;have hn:n<1000000:=by have:=h1.len_le h2;omega
 have hl:Ap Q<=1056:=rO h2;have HB2:=Ab (Ae HB1.out hb2);have HS:Aa (Ak Q=(Ap Q+7)/8):=⟨rfl⟩
 clear h1 h2 hb2
 go_wp2_with fail
 refine(Fg _ p n c Q HN.out hn).mono ?_;rintro en w3 ⟨rfl,hb3⟩;have HB3:=Ab (Ae HB2.out hb3);clear hb3;obtain⟨L,hL⟩:∃L,Ap Q=L:=⟨_,rfl⟩
 rw[hL]at hl HS
 simp only[hL];clear hL;go_wp2;go_ret;refine⟨?_,HB3.out⟩;rw[HS.out];exact congrArg (fun z=>Ending.returned (.int .i64 z)) (by omega)
theorem kO {w:World}{Q:Nat}{g0:Value}(h:Uz Q g0 w)(hq:Ak Q<=16) :
  Calls Tryz.prog 99 #[g0] w fun en w'=>en=.returned (.int .i64 (2*Ak Q:Nat))/\Below w.heap.size w w':=by
 have HQ:=Ab h;clear h;go_enter Tryz.func99,Tryz.ntmps99
 go_wp2_with fail
 refine(Ff HQ.out).mono ?_;rintro en w1 ⟨rfl,hb1⟩;have HB1:=Ab hb1;clear hb1;obtain⟨L,hL⟩:∃L,Ak Q=L:=⟨_,rfl⟩
 have HL:=Ab hL;rw[hL]at hq
 simp only[hL];clear hL HQ;go_wp2;go_ret;refine⟨?_,HB1.out⟩;rw[HL.out];show Ending.returned (.int .i64 (2*(L:Int)))=Ending.returned (.int .i64 ((2*L:Nat):Int));rw[Int.natCast_mul];rfl
theorem Gp {w:World}{Q e A:Nat}{g0 v:Value}(h:Uz Q g0 w)(hv:Fit e A v w)(he:e<=30000) :
  Calls Tryz.prog 96 #[g0,v] w fun en w'=>en=.returned (.bool (decide (A<Q)))/\Below w.heap.size w w':=by
 obtain⟨pa,na,ca,rfl,h1,h2⟩:=Ax hv;have hb1:=Ag.made w (.slice pa na ca);have hbel:Below w.heap.size w (w.alloc (.cells #[.slice pa na ca] 36)):=Bw;obtain⟨wa,hwa⟩:∃wa,w.alloc (.cells #[.slice pa na ca] 36)=wa:=⟨_,rfl⟩
 rw[hwa]at hb1 hbel
 have HA:=Ab ((Fit.of h1 h2).below hbel);have HBX:=Ab hb1;have HB:=Ab hbel;have HQ:=Ab (sM.of h (Av _) hbel);obtain⟨K,hK⟩:∃K,Bp A Q=K:=⟨_,rfl⟩
 have HK:=Ab hK;obtain⟨X,hX⟩:∃X,decide (A<Q)=X:=⟨_,rfl⟩
 have hE:decide (K<0)=X:=by
  rw[<-hK,<-hX];exact decide_eq_decide.2 nI
 rw[hX];clear hK hX h1 h2 hb1 hbel h hv;go_enter Tryz.func96,Tryz.ntmps96;go_wp2;refine Al (by kernel_rfl) (by kernel_rfl)
  [some (.agg #[.slice pa na ca]),some (g0),none,none,none,some (.bool X),some (.bool X)]
  [false,false,true,true,true,false,false] rfl
  (fun wA wB=>KN (w.heap.size) wA wB)
  (fun D sp w'=>RG (w.heap.size) wa [(w.heap.size,.cells #[.slice pa na ca] 36 (0,0))] w'/\True)
  (fun i v w'=>match i with
   | 2=>RQ Q v w'
   | 3=>Fit 33 Q v w'
   | 4=>v=.int .i64 K
   | _=>True)
  ?_ ⟨RG.start HB.out.size (List.forall_mem_cons.2 ⟨HBX.out,fun x hx=>by cases hx⟩),trivial⟩ ?_ ?_
 .intro i v wA wB hf hb;split at hf
  .exact hf.kn hb
  .exact hf.kn hb
  .exact hf
  .trivial
 .simp only[Bb,Nat.reduceAdd];refine⟨?_,?_,?_,?_,?_,?_,?_,trivial⟩
  all_goals intro D sp w' hD hW hdp hg
  case refine_1=>
   have c0:w'.cell? ⟨w.heap.size,0,none⟩=some (.slice pa na ca):=Ag.cell (hg.1.of List.mem_cons_self)
   with_reducible refine Ad ?_ ?_
   all_goals simp[Region.wanted,yielded,execOp,Act.eval,Act.put,go_sem,c0]
  case refine_3=>
   (with_reducible refine Ac (w1:=w') (f := 19) (args:=#[g0]) ?_ ?_ ?_)
   .simp[Region.wanted,yielded,Act.put,go_sem]
   .simp[Act.eval,Act.put,go_sem]
   .refine(Nr (HQ.out.keep hg.1.keep)).mono ?_;rintro en w9 ⟨u,rfl,hu,hb⟩;exact⟨u,rfl,KN.of hb hg.1.base,hu,hg.1.later hb,trivial⟩
  case refine_4=>
   have k2:RQ Q (sp 2) w':=(hdp 2 (mq (by kernel_rfl))).2
   (with_reducible refine Ac (w1:=w') (f := 56) (args:=#[sp 2]) ?_ ?_ ?_)
   .simp[Region.wanted,yielded,Act.put,go_sem]
   .simp[Act.eval,Act.put,go_sem]
   .refine(Zu k2).mono ?_;rintro en w9 ⟨u,rfl,hu,hb⟩;exact⟨u,rfl,KN.of hb hg.1.base,hu,hg.1.later hb,trivial⟩
  case refine_5=>
   have k3:Fit 33 Q (sp 3) w':=(hdp 3 (mq (by kernel_rfl))).2
   (with_reducible refine Ac (w1:=w') (f := 33) (args:=#[.agg #[.slice pa na ca],sp 3]) ?_ ?_ ?_)
   .simp[Region.wanted,yielded,Act.put,go_sem]
   .simp[Act.eval,Act.put,go_sem]
   .refine(Bt (HA.out.keep hg.1.keep) k3 (by omega) (by decide) HK.out).mono ?_;rintro en w9 ⟨u,rfl,rfl,hb⟩;exact⟨_,rfl,KN.of hb hg.1.base,rfl,hg.1.later hb,trivial⟩
  case refine_6=>
   have k4:(sp 4)=.int .i64 K:=(hdp 4 (mq (by kernel_rfl))).2
   with_reducible refine Ad ?_ ?_
   all_goals simp[Region.wanted,yielded,execOp,Act.eval,Act.put,go_sem,k4,hE]
  all_goals ((with_reducible refine Ad ?_ ?_);all_goals first|(simp only[Region.wanted];done)|simp[Region.wanted,yielded,execOp,Act.eval,Act.put,go_sem])
 .intro sp w7 hsp hg;have HB7:=Ab (HB.out.trans hg.1.keep.bel);clear hsp hg;simp only[Am,Nat.reduceAdd];generalize sp 2=y2,sp 3=y3,sp 4=y4 at *
  go_simp
  go_wp2;go_ret;exact⟨rfl,HB7.out⟩
end Go.Proofs.YthgoeiegdhphjaaGreatDoor
