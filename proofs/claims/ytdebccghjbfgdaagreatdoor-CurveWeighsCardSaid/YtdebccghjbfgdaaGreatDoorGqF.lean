/- The second base, of the program. -/
import Derived.Test.YtdebccghjbfgdaaGreatDoorGqE
set_option maxRecDepth 1000000
set_option maxHeartbeats 16000000
set_option linter.unusedSimpArgs false
set_option linter.unusedVariables false
namespace Go.Proofs.YtdebccghjbfgdaaGreatDoor
open Go Go.RowKit Go.Proofs.YtdebccghjbfgdaaGreatDoor.Flow
theorem RG.trans {B:Nat} {w1 w2 w3:World} {l:List (Nat × Obj)} (h:RG B w1 l w2) (k:RG B w2 l w3):RG B w1 l w3:=⟨h.keep.trans k.keep,k.base,k.blk⟩
theorem second_fit {w:World} {e r f P Q:Nat} {x y z:Option Addr × Nat × Nat} {ps:Option Addr} {ns cs:Nat} {seed:List Nat} (hT:Tabs w) (hr:Ring w r P f) (hf:f <= 32) (hP0:At3 w x P) (lP:P < B32 e) (hQ0:At3 w y Q) (lQ:Q < B32 e) (h1:1 <= P) (h2:1 <= Q) (hS:PartOk w ⟨ps,ns,cs,seed⟩) (he:e <= 32) :
  Calls Tryz.prog 111 #[.agg #[.slice x.1 x.2.1 x.2.2,.slice y.1 y.2.1 y.2.2,.slice z.1 z.2.1 z.2.2,.slice ps ns cs],.pointer (some ⟨r,0,none⟩)] w fun en w'=>∃ p n c k,en=.returned (.tuple #[.agg #[.slice p n c],.int .i64 k]) /\ Below w.heap.size w w' /\
   (∀ h,firstH (fun c=>hNum seed P c ^ ((P - 1) / Q) % P) 256 0=some h -> k=0 /\ NatAt w' p n c h /\ h < B32 f) /\ (firstH (fun c=>hNum seed P c ^ ((P - 1) / Q) % P) 256 0=none -> k=6):=by
 have hX0:=Box4.made 91 w (.slice x.1 x.2.1 x.2.2) (.slice y.1 y.2.1 y.2.2) (.slice z.1 z.2.1 z.2.2) (.slice ps ns cs)
 have hb0:Below w.heap.size w (w.alloc (.cells #[.slice x.1 x.2.1 x.2.2,.slice y.1 y.2.1 y.2.2,.slice z.1 z.2.1 z.2.2,.slice ps ns cs] 91)):=bal
 have hsz:(w.alloc (.cells #[.slice x.1 x.2.1 x.2.2,.slice y.1 y.2.1 y.2.2,.slice z.1 z.2.1 z.2.2,.slice ps ns cs] 91)).heap.size=w.heap.size + 1:=by simp
 obtain ⟨wz,hwz⟩:∃ wz,w.alloc (.cells #[.slice x.1 x.2.1 x.2.2,.slice y.1 y.2.1 y.2.2,.slice z.1 z.2.1 z.2.2,.slice ps ns cs] 91)=wz:=⟨_,rfl⟩
 rw [hwz] at hX0 hb0 hsz
 have hR0:=NatBox.made wz (.slice none 0 0)
 have hba:Below wz.heap.size wz (wz.alloc (.cells #[.slice none 0 0] 36)):=bal
 obtain ⟨wa,hwa⟩:∃ wa,wz.alloc (.cells #[.slice none 0 0] 36)=wa:=⟨_,rfl⟩
 rw [hwa] at hR0 hba
 have hX1:=hX0.below hba hX0.lt
 rw [hsz] at hR0
 have hbel:=bstep hb0 hba
 have HX:=hol hX1
 have HRB:=hol hR0
 have HB:=hol hbel
 have HSZ:Hold (w.heap.size + 1 + 1 <= wa.heap.size):=⟨hR0.lt⟩
 have hP:At3 wa x P:=NatAt.below hP0 hbel
 have hQ:At3 wa y Q:=NatAt.below hQ0 hbel
 have HT:=hol hT
 have HSw:=hol hS
 have HR:=hol (hr.below hbel)
 have HRL:Hold (r < w.heap.size):=⟨hr.at_.lt⟩
 have HTl:=hol hT.size
 have HP2:=hol hr.two
 have HPf:=hol hr.lim
 obtain ⟨FH,hFH⟩:∃ X,firstH (fun c=>hNum seed P c ^ ((P - 1) / Q) % P) 256 0=X:=⟨_,rfl⟩
 have HFH:=hol hFH
 rw [hFH]
 clear hFH hX0 hX1 hR0 hb0 hba hbel hr hP0 hQ0 hT hS
 go_enter Tryz.func111,Tryz.ntmps111
 have cw:=HX.out.cells.1
 have cx:=HX.out.cells.2.1
 have cy:=HX.out.cells.2.2.1
 have cz:=HX.out.cells.2.2.2
 go_wp2_with fail
 refine (often_fit (x:=x) (y:=y) (z:=z) hP lP hQ lQ h1 h2 he).mono ?_
 rintro en w3 ⟨_,rfl,⟨p5,n5,c5,rfl,hn5,ln5⟩,hb3⟩
 have hb4:Below w3.heap.size w3 (w3.alloc (.cells #[.slice p5 n5 c5] 36)):=bal
 have hX4:=NatBox.made w3 (.slice p5 n5 c5)
 obtain ⟨w4,hw4⟩:∃ w4,w3.alloc (.cells #[.slice p5 n5 c5] 36)=w4:=⟨_,rfl⟩
 rw [hw4] at hb4 hX4
 have hb14:=bstep hb3 hb4
 have HTI:Hold (Fit e ((P - 1) / Q) (.agg #[.slice p5 n5 c5]) w4):=⟨(Fit.of hn5 ln5).below hb4⟩
 have HS3:Hold (wa.heap.size <= w3.heap.size):=⟨hb3.size⟩
 have HB4:=hol (bstep HB.out hb14)
 have HK4:Hold (RG w.heap.size w4 [(w.heap.size,.cells #[.slice x.1 x.2.1 x.2.2,.slice y.1 y.2.1 y.2.2,.slice z.1 z.2.1 z.2.2,.slice ps ns cs] 91 (0,0)),(w.heap.size + 1,.cells #[.slice none 0 0] 36 (0,0)),(w3.heap.size,.cells #[.slice p5 n5 c5] 36 (0,0))] w4):=⟨⟨Keep.same _ _,HB4.out.size,List.forall_mem_cons.2 ⟨(HX.out.below hb14 HX.out.lt).at_,List.forall_mem_cons.2 ⟨HRB.out.below hb14 HRB.out.lt,List.forall_mem_cons.2 ⟨hX4,fun g hx=>by cases hx⟩⟩⟩⟩⟩
 have HR4:=hol (HR.out.below hb14)
 have HT4:=hol (HT.out.below HB4.out HTl.out)
 clear hn5 ln5 hb3 hb4 hX4 hb14 cw cx cy cz HX HRB
 go_wp2
 go_loopw [15,8,9] (fun iv _ _ wr=>∃ k:Nat,k <= 256 /\ iv=.int .i64 k /\ Hold (RG w.heap.size w4 [(w.heap.size,.cells #[.slice x.1 x.2.1 x.2.2,.slice y.1 y.2.1 y.2.2,.slice z.1 z.2.1 z.2.2,.slice ps ns cs] 91 (0,0)),(w.heap.size + 1,.cells #[.slice none 0 0] 36 (0,0)),(w3.heap.size,.cells #[.slice p5 n5 c5] 36 (0,0))] wr) /\ Hold (firstH (fun c=>hNum seed P c ^ ((P - 1) / Q) % P) 256 0=firstH (fun c=>hNum seed P c ^ ((P - 1) / Q) % P) (256 - k) k)) (fun iv _ _ _=>256 - (intOf iv).toNat)
 case atStart=>exact ⟨0,by omega,rfl,HK4,⟨rfl⟩⟩
 case round =>
  obtain ⟨k,hk,rfl,HKr,HFr⟩:=hrel
  have HBr:Hold (Below w.heap.size w wr):=⟨HB4.out.trans HKr.out.keep.bel⟩
  by_cases hkn:k < 256
  ·have hkn':(k:Int) < 256:=by omega
   have hcv:IntKind.u8.wrap ((k:Nat):Int)=k:=IntWalk.u8_in _ (by omega)
   have HTr:=hol (HT.out.below HBr.out HTl.out)
   have HRr:=hol (HR4.out.keep HRL.out HKr.out.keep)
   have HTIr:=hol (HTI.out.keep HKr.out.keep)
   have HLT:Hold (∀ g ∈ ([(w.heap.size,.cells #[.slice x.1 x.2.1 x.2.2,.slice y.1 y.2.1 y.2.2,.slice z.1 z.2.1 z.2.2,.slice ps ns cs] 91 (0,0)),(w.heap.size + 1,.cells #[.slice none 0 0] 36 (0,0)),(w3.heap.size,.cells #[.slice p5 n5 c5] 36 (0,0))]:List (Nat × Obj)),g.1 < wr.heap.size):=⟨fun g hg=>(Array.getElem?_eq_some_iff.1 (HKr.out.blk g hg)).1⟩
   obtain ⟨YY,hYY⟩:∃ X,hNum seed P k ^ ((P - 1) / Q) % P=X:=⟨_,rfl⟩
   have HY:Hold ((hNum seed P k % P) ^ ((P - 1) / Q) % P=YY):=⟨by rw [pow_cut]; exact hYY⟩
   have HYY:=hol hYY
   have HYl:Hold (YY < B32 f):=⟨by rw [<- hYY]; exact Nat.lt_trans (Nat.mod_lt _ (by have:=HP2.out; omega)) HPf.out⟩
   clear hYY
   go_wp2
   refine wp_region_dutiesS (by kernel_rfl) (by kernel_rfl)
    [some (.pointer (some ⟨r,0,none⟩)),some (.pointer (some ⟨r,0,none⟩)),some (.pointer (some ⟨w.heap.size,3,none⟩)),some (.slice ps ns cs),some (.int .i64 (k:Nat)),some (.int .u8 (k:Nat)),none,some (.agg #[.slice p5 n5 c5]),none,none,none]
    [false,false,false,false,false,false,true,false,true,true,true] rfl
    (fun w1 w2=>Keep (w.heap.size) w1 w2)
    (fun D sp w'=>RG (w.heap.size) wr [(w.heap.size,.cells #[.slice x.1 x.2.1 x.2.2,.slice y.1 y.2.1 y.2.2,.slice z.1 z.2.1 z.2.2,.slice ps ns cs] 91 (0,0)),(w.heap.size + 1,.cells #[.slice none 0 0] 36 (0,0)),(w3.heap.size,.cells #[.slice p5 n5 c5] 36 (0,0))] w' /\ MkB (D 9) (D 10) (sp 9) (wr.heap.size) (YY) w')
    (fun i v w'=>match i with
     | 6=>Fit f (hNum seed P k % P) v w'
     | 8=>Fit f YY v w'
     | _=>True)
    ?_ ⟨RG.start HBr.out.size HKr.out.blk,MkB.start (Nat.le_refl _)⟩ ?_ ?_
   ·intro i v w1 w2 hf hb
    split at hf
    ·exact hf.keep hb
    ·exact hf.keep hb
    ·trivial
   ·simp only [DutiesS,Nat.reduceAdd]
    refine ⟨?_,?_,?_,?_,?_,?_,?_,?_,?_,?_,?_,trivial⟩
    all_goals intro D sp w' hD hW hdp hg
    case refine_4 =>
     have c3:=(Box4.cells ⟨hg.1.of List.mem_cons_self⟩).2.2.2
     with_reducible refine asked_pl ?_ ?_
     all_goals simp [Region.wanted,yielded,execOp,Act.eval,Act.put,go_sem,c3]
    case refine_6 =>
     (with_reducible refine asked_value (w1:=w') (v:=.int .u8 (k:Nat)) ?_ ?_ ?_)
     ·simp [Region.wanted,yielded,Act.put,go_sem]
     ·simp [execOp,Act.eval,Act.put,go_sem,hcv]
     ·exact ⟨rfl,rfl⟩
    case refine_7 =>
     (with_reducible refine asked_call (w1:=w') (f := 161) (args:=#[.pointer (some ⟨r,0,none⟩),.slice ps ns cs,.int .u8 (k:Nat)]) ?_ ?_ ?_)
     ·simp [Region.wanted,yielded,Act.put,go_sem]
     ·simp [Act.eval,Act.put,go_sem]
     ·refine (derived_fit (HTr.out.below hg.1.keep.bel HTl.out) (HRr.out.keep HRL.out hg.1.keep) hf (HSw.out.below (HBr.out.trans hg.1.keep.bel)) hkn).mono ?_
      rintro en w9 ⟨u,rfl,hu,hb⟩
      exact ⟨u,rfl,Keep.of hb hg.1.base,hu,hg.1.later hb,by simpa [upd] using hg.2.later hb⟩
    case refine_8 =>
     have c0:w'.cell? ⟨w3.heap.size,0,none⟩=some (.slice p5 n5 c5):=NatBox.cell (hg.1.of (List.mem_cons_of_mem _ (List.mem_cons_of_mem _ List.mem_cons_self)))
     with_reducible refine asked_pl ?_ ?_
     all_goals simp [Region.wanted,yielded,execOp,Act.eval,Act.put,go_sem,c0]
    case refine_9 =>
     have k6:Fit f (hNum seed P k % P) (sp 6) w':=(hdp 6 (mq (by kernel_rfl))).2
     (with_reducible refine asked_call (w1:=w') (f := 88) (args:=#[.pointer (some ⟨r,0,none⟩),sp 6,.agg #[.slice p5 n5 c5]]) ?_ ?_ ?_)
     ·simp [Region.wanted,yielded,Act.put,go_sem]
     ·simp [Act.eval,Act.put,go_sem]
     ·refine (rexp_fit (HRr.out.keep HRL.out hg.1.keep) k6 (HTIr.out.keep hg.1.keep) (by omega) (by omega)).mono ?_
      rintro en w9 ⟨u,rfl,hu,hb⟩
      rw [HY.out] at hu
      exact ⟨u,rfl,Keep.of hb hg.1.base,hu,hg.1.later hb,by simpa [upd] using hg.2.later hb⟩
    case refine_10 =>
     have h9:D 10=false:=hW 10 (mq (by kernel_rfl))
     rw [hD,h9] at hg
     (with_reducible refine asked_value (w1:=w'.alloc (.cells #[.slice none 0 0] 36)) (v:=.pointer (some ⟨w'.heap.size,0,none⟩)) ?_ ?_ ?_)
     ·simp [Region.wanted,yielded,Act.put,go_sem]
     ·simp [execOp,go_sem]
     ·have hb:Below w'.heap.size w' (w'.alloc (.cells #[.slice none 0 0] 36)):=bal
      refine ⟨Keep.of hb hg.1.base,trivial,hg.1.later hb,?_⟩
      have h8:=hg.2.made
      simpa [upd,h9] using h8
    case refine_11 =>
     have hx:∃ p n c,sp 8=.agg #[.slice p n c] /\ NatAt w' p n c (YY) /\ YY < B32 (f):=(hdp 8 (mq (by kernel_rfl))).2
     (with_reducible refine Exists.elim hx fun p hx1=>Exists.elim hx1 fun n hx2=>Exists.elim hx2 fun c hx3=>?_)
     have h1:=hx3.1
     have h9:D 9=true:=(hdp 9 (mq (by kernel_rfl))).1
     rw [h9] at hg
     have hp:=hg.2.put (hx3.2.1)
     (with_reducible refine Exists.elim hp fun b hy0=>Exists.elim hy0 fun q hy1=>Exists.elim hy1 fun m hy2=>Exists.elim hy2 fun k hy3=>?_)
     have h3:=hy3.1
     have h6:=hy3.2.2.1.cell
     have h7:=hy3.2.2.1.free
     (with_reducible refine asked_skip (w1:=w'.setCell ⟨b,0,none⟩ (.slice p n c)) ?_ ?_ ?_)
     ·simp [Region.wanted,yielded,Act.put,go_sem]
     ·simp [execOp,Act.eval,Act.put,go_sem,h1,h3,h6,h7]
     ·refine ⟨Keep.store hy3.2.2.1 (Nat.le_trans HBr.out.size hy3.2.1) _,trivial,hg.1.store_over hy3.2.2.1 HBr.out.size hy3.2.1 HLT.out _,?_⟩
      have h8:=hy3.2.2.2
      simpa [upd,h9] using h8
    all_goals ((with_reducible refine asked_pl ?_ ?_); all_goals first | (simp only [Region.wanted]; done) | simp [Region.wanted,yielded,execOp,Act.eval,Act.put,go_sem])
   ·intro sp w8 hsp hg
    obtain ⟨hg1,_,hmk⟩:=hg
    obtain ⟨b9,e9,hb9,p9,n9,c9,hx9,hn9⟩:=hmk rfl
    replace hn9:=hn9 rfl
    have HK8:=hol hg1
    have HX9:=hol hx9
    have HF9:Hold (Fit f YY (.agg #[.slice p9 n9 c9]) w8):=⟨Fit.of hn9 HYl.out⟩
    have HN9:=hol hn9
    obtain ⟨K4,hK40⟩:∃ K,cmpI YY 1=K:=⟨_,rfl⟩
    have HK4':=hol hK40
    have HK4:=hol hK40
    have HFs:=hol (firstH_step (fun c=>hNum seed P c ^ ((P - 1) / Q) % P) hkn)
    have HNE9:Hold (b9 ≠ w.heap.size + 1):=⟨by have h1:=HLT.out _ (List.mem_cons_of_mem _ List.mem_cons_self); simp only at h1; omega⟩
    clear hsp hg1 hmk hx9 hn9 hb9
    simp only [frameOf,Nat.reduceAdd]
    rw [e9]
    clear e9
    generalize sp 6=y6,sp 8=y8,sp 10=y10 at *
    by_cases hgt:1 < YY
    ·have hGT:decide (0 < K4)=true:=decide_eq_true (by rw [<- hK40,cmpI_gt hgt]; decide)
     have hfh:FH=some YY:=by
      rw [<- HFH.out,HFr.out,HFs.out]
      have:1 < (fun c=>hNum seed P c ^ ((P - 1) / Q) % P) k:=by rw [show (fun c=>hNum seed P c ^ ((P - 1) / Q) % P) k=YY from HYY.out]; exact hgt
      rw [if_pos this,HYY.out]
     have HFT:=hol hfh
     clear hgt hK40 hcv hfh
     go_simp
     go_wp2
     refine wp_region_dutiesS (by kernel_rfl) (by kernel_rfl)
      [some (.agg #[.slice p9 n9 c9]),none,none,some (.bool true)]
      [false,true,true,false] rfl
      (fun w1 w2=>Keep (w.heap.size) w1 w2)
      (fun D sp w'=>RG (w.heap.size) w8 [(w.heap.size,.cells #[.slice x.1 x.2.1 x.2.2,.slice y.1 y.2.1 y.2.2,.slice z.1 z.2.1 z.2.2,.slice ps ns cs] 91 (0,0)),(w.heap.size + 1,.cells #[.slice none 0 0] 36 (0,0)),(w3.heap.size,.cells #[.slice p5 n5 c5] 36 (0,0)),(b9,.cells #[.slice p9 n9 c9] 36 (0,0))] w' /\ True)
      (fun i v w'=>match i with
       | 1=>Fit 1 1 v w'
       | 2=>v=.int .i64 K4
       | _=>True)
      ?_ ⟨RG.start HK8.out.base (List.forall_mem_cons.2 ⟨HK8.out.blk _ List.mem_cons_self,List.forall_mem_cons.2 ⟨HK8.out.blk _ (List.mem_cons_of_mem _ List.mem_cons_self),List.forall_mem_cons.2 ⟨HK8.out.blk _ (List.mem_cons_of_mem _ (List.mem_cons_of_mem _ List.mem_cons_self)),List.forall_mem_cons.2 ⟨HX9.out,fun g hx=>by cases hx⟩⟩⟩⟩),trivial⟩ ?_ ?_
     ·intro i v w1 w2 hf hb
      split at hf
      ·exact hf.keep hb
      ·exact hf
      ·trivial
     ·simp only [DutiesS,Nat.reduceAdd]
      refine ⟨?_,?_,?_,?_,trivial⟩
      all_goals intro D sp w' hD hW hdp hg
      case refine_1 =>
       have c0:w'.cell? ⟨b9,0,none⟩=some (.slice p9 n9 c9):=NatBox.cell (hg.1.of (List.mem_cons_of_mem _ (List.mem_cons_of_mem _ (List.mem_cons_of_mem _ List.mem_cons_self))))
       with_reducible refine asked_pl ?_ ?_
       all_goals simp [Region.wanted,yielded,execOp,Act.eval,Act.put,go_sem,c0]
      case refine_2 =>
       (with_reducible refine asked_call (w1:=w') (f := 20) (args:=#[.int .u64 1]) ?_ ?_ ?_)
       ·simp [Region.wanted,yielded,Act.put,go_sem]
       ·simp [Act.eval,Act.put,go_sem]
       ·refine (one_fit w').mono ?_
        rintro en w9 ⟨u,rfl,hu,hb⟩
        exact ⟨u,rfl,Keep.of hb hg.1.base,hu,hg.1.later hb,trivial⟩
      case refine_3 =>
       have k1:Fit 1 1 (sp 1) w':=(hdp 1 (mq (by kernel_rfl))).2
       (with_reducible refine asked_call (w1:=w') (f := 35) (args:=#[.agg #[.slice p9 n9 c9],sp 1]) ?_ ?_ ?_)
       ·simp [Region.wanted,yielded,Act.put,go_sem]
       ·simp [Act.eval,Act.put,go_sem]
       ·refine (cmp_fitK (HF9.out.keep hg.1.keep) k1 (by omega) (by decide) HK4.out).mono ?_
        rintro en w9 ⟨u,rfl,rfl,hb⟩
        exact ⟨_,rfl,Keep.of hb hg.1.base,rfl,hg.1.later hb,trivial⟩
      case refine_4 =>
       have k2:(sp 2)=.int .i64 K4:=(hdp 2 (mq (by kernel_rfl))).2
       with_reducible refine asked_pl ?_ ?_
       all_goals simp [Region.wanted,yielded,execOp,Act.eval,Act.put,go_sem,k2,hGT]
     ·intro sp w9 hsp hg
      have hrb:=hg.1.of (List.mem_cons_of_mem _ List.mem_cons_self)
      have hrb':NatBox w9 (w.heap.size + 1) (.slice none 0 0):=hrb
      have k0:=hrb'.cell
      have k1:=hrb'.free
      have hx9':NatBox w9 b9 (.slice p9 n9 c9):=hg.1.of (List.mem_cons_of_mem _ (List.mem_cons_of_mem _ (List.mem_cons_of_mem _ List.mem_cons_self)))
      have k9:=hx9'.cell
      have hn:=hg.1.keep.nat _ _ _ _ HN9.out
      have HNF:=hol (hn.store hrb' (.slice p9 n9 c9))
      have hbf:Below w.heap.size w (w9.setCell ⟨w.heap.size + 1,0,none⟩ (.slice p9 n9 c9)):=(HBr.out.trans (HK8.out.keep.trans hg.1.keep).bel).setCell (by simp) _
      have HBF:=hol hbf
      clear hsp hg hrb hrb' hx9' hn hbf hGT
      simp only [frameOf,Nat.reduceAdd]
      generalize sp 1=t1,sp 2=t2 at *
      go_simp
      go_wp2
      refine bodyPost_ret (v:=.tuple #[.agg #[.slice p9 n9 c9],.int .i64 0]) (by simp [results,Tryz.results111,go_sem,k0]) rfl ⟨p9,n9,c9,0,rfl,HBF.out,fun h hh=>?_,fun hh=>?_⟩
      ·rw [HFT.out] at hh
       cases hh
       exact ⟨rfl,HNF.out,HYl.out⟩
      ·rw [HFT.out] at hh
       cases hh
    ·have hGT:decide (0 < K4)=false:=decide_eq_false (by rw [<- hK40]; have:=cmpI_le0 (show YY <= 1 by omega); omega)
     have HF':Hold (firstH (fun c=>hNum seed P c ^ ((P - 1) / Q) % P) 256 0=firstH (fun c=>hNum seed P c ^ ((P - 1) / Q) % P) (256 - (k + 1)) (k + 1)):=⟨by
      rw [HFr.out,HFs.out,if_neg]
      rw [HYY.out]
      exact hgt⟩
     clear hgt hK40 hcv
     go_simp
     go_wp2
     refine wp_region_dutiesS (by kernel_rfl) (by kernel_rfl)
      [some (.agg #[.slice p9 n9 c9]),none,none,some (.bool false)]
      [false,true,true,false] rfl
      (fun w1 w2=>Keep (w.heap.size) w1 w2)
      (fun D sp w'=>RG (w.heap.size) w8 [(w.heap.size,.cells #[.slice x.1 x.2.1 x.2.2,.slice y.1 y.2.1 y.2.2,.slice z.1 z.2.1 z.2.2,.slice ps ns cs] 91 (0,0)),(w.heap.size + 1,.cells #[.slice none 0 0] 36 (0,0)),(w3.heap.size,.cells #[.slice p5 n5 c5] 36 (0,0)),(b9,.cells #[.slice p9 n9 c9] 36 (0,0))] w' /\ True)
      (fun i v w'=>match i with
       | 1=>Fit 1 1 v w'
       | 2=>v=.int .i64 K4
       | _=>True)
      ?_ ⟨RG.start HK8.out.base (List.forall_mem_cons.2 ⟨HK8.out.blk _ List.mem_cons_self,List.forall_mem_cons.2 ⟨HK8.out.blk _ (List.mem_cons_of_mem _ List.mem_cons_self),List.forall_mem_cons.2 ⟨HK8.out.blk _ (List.mem_cons_of_mem _ (List.mem_cons_of_mem _ List.mem_cons_self)),List.forall_mem_cons.2 ⟨HX9.out,fun g hx=>by cases hx⟩⟩⟩⟩),trivial⟩ ?_ ?_
     ·intro i v w1 w2 hf hb
      split at hf
      ·exact hf.keep hb
      ·exact hf
      ·trivial
     ·simp only [DutiesS,Nat.reduceAdd]
      refine ⟨?_,?_,?_,?_,trivial⟩
      all_goals intro D sp w' hD hW hdp hg
      case refine_1 =>
       have c0:w'.cell? ⟨b9,0,none⟩=some (.slice p9 n9 c9):=NatBox.cell (hg.1.of (List.mem_cons_of_mem _ (List.mem_cons_of_mem _ (List.mem_cons_of_mem _ List.mem_cons_self))))
       with_reducible refine asked_pl ?_ ?_
       all_goals simp [Region.wanted,yielded,execOp,Act.eval,Act.put,go_sem,c0]
      case refine_2 =>
       (with_reducible refine asked_call (w1:=w') (f := 20) (args:=#[.int .u64 1]) ?_ ?_ ?_)
       ·simp [Region.wanted,yielded,Act.put,go_sem]
       ·simp [Act.eval,Act.put,go_sem]
       ·refine (one_fit w').mono ?_
        rintro en w9 ⟨u,rfl,hu,hb⟩
        exact ⟨u,rfl,Keep.of hb hg.1.base,hu,hg.1.later hb,trivial⟩
      case refine_3 =>
       have k1:Fit 1 1 (sp 1) w':=(hdp 1 (mq (by kernel_rfl))).2
       (with_reducible refine asked_call (w1:=w') (f := 35) (args:=#[.agg #[.slice p9 n9 c9],sp 1]) ?_ ?_ ?_)
       ·simp [Region.wanted,yielded,Act.put,go_sem]
       ·simp [Act.eval,Act.put,go_sem]
       ·refine (cmp_fitK (HF9.out.keep hg.1.keep) k1 (by omega) (by decide) HK4.out).mono ?_
        rintro en w9 ⟨u,rfl,rfl,hb⟩
        exact ⟨_,rfl,Keep.of hb hg.1.base,rfl,hg.1.later hb,trivial⟩
      case refine_4 =>
       have k2:(sp 2)=.int .i64 K4:=(hdp 2 (mq (by kernel_rfl))).2
       with_reducible refine asked_pl ?_ ?_
       all_goals simp [Region.wanted,yielded,execOp,Act.eval,Act.put,go_sem,k2,hGT]
     ·intro sp w9 hsp hg
      have HK9:Hold (RG w.heap.size w4 [(w.heap.size,.cells #[.slice x.1 x.2.1 x.2.2,.slice y.1 y.2.1 y.2.2,.slice z.1 z.2.1 z.2.2,.slice ps ns cs] 91 (0,0)),(w.heap.size + 1,.cells #[.slice none 0 0] 36 (0,0)),(w3.heap.size,.cells #[.slice p5 n5 c5] 36 (0,0))] w9):=⟨HKr.out.trans (HK8.out.trans ⟨hg.1.keep,hg.1.base,fun g hx=>hg.1.blk g (List.mem_append_left [(b9,_)] hx)⟩)⟩
      clear hsp hg hGT
      simp only [frameOf,Nat.reduceAdd]
      generalize sp 1=t1,sp 2=t2 at *
      go_simp
      go_wp2
      go_roundw
      case rel=>exact ⟨k + 1,by omega,by go_num,HK9,HF'⟩
      case measure=>simp [intOf]; omega
  ·obtain rfl:k=256:=by omega
   have hkn':¬ (256:Int) < 256:=by omega
   have hrb:NatBox wr (w.heap.size + 1) (.slice none 0 0):=HKr.out.of (List.mem_cons_of_mem _ List.mem_cons_self)
   have k0:=hrb.cell
   have k1:=hrb.free
   have hbf:Below w.heap.size w (wr.setCell ⟨w.heap.size + 1,0,none⟩ (.slice none 0 0)):=HBr.out.setCell (by simp) _
   have HBF:=hol hbf
   have HN:Hold (FH=none):=⟨by rw [<- HFH.out,HFr.out]; rfl⟩
   clear hrb hbf
   go_wp2
   refine bodyPost_ret (v:=.tuple #[.agg #[.slice none 0 0],.int .i64 6]) (by simp [results,Tryz.results111,go_sem,k0]) rfl ⟨none,0,0,6,rfl,HBF.out,fun h hh=>?_,fun _=>rfl⟩
   rw [HN.out] at hh
   cases hh
end Go.Proofs.YtdebccghjbfgdaaGreatDoor
