/- Does a proof verify (dleq.Verify)? A claim's challenge as it is asked for (Answer). -/
import Derived.Test.YthgoeiegdhphjaaGreatDoorDlC
import Derived.Test.YthgoeiegdhphjaaGreatDoorDrwn
import Derived.Test.YthgoeiegdhphjaaGreatDoorSgD
set_option maxRecDepth 1000000
set_option maxHeartbeats 16000000
set_option linter.unusedSimpArgs false
set_option linter.unusedVariables false
namespace Go.Proofs.YthgoeiegdhphjaaGreatDoor
open Go Go.RowKit Go.Proofs.YthgoeiegdhphjaaGreatDoor.Flow
theorem trip4 {w : World} {e A B Y Z : Nat} {xa xb xy xz : Option Addr × Nat × Nat} (h : AtC A B Y Z xa xb xy xz w) (lA : A < B32 e) (lB : B < B32 e) (lY : Y < B32 e) (lZ : Z < B32 e) : Trip w e [xa, xb, xy, xz] [A, B, Y, Z] :=
 (((((Trip.nil w e).snoc h.1 lA)).snoc h.2.1 lB).snoc h.2.2.1 lY).snoc h.2.2.2 lZ
theorem all4 {P Q A B Y Z : Nat} : [A, B, Y, Z].all (memB P Q) = true ↔ dlMem P Q A B Y Z := by
 simp only [List.all_cons, List.all_nil, Bool.and_true, Bool.and_eq_true, memB_iff]
 exact Iff.rfl
theorem dlverify_fit {w : World} {b P Q G H A B Y Z nm cm ns cs : Nat} {xa xb xy xz : Option Addr × Nat × Nat} {pm ps : Option Addr} {msg sig : List Nat} (hg : GroupAt w b P Q G H) (hT : Tabs w) (hC : AtC A B Y Z xa xb xy xz w) (lA : A < B32 33) (lB : B < B32 33) (lY : Y < B32 33) (lZ : Z < B32 33)
  (hP : bsize P <= 16) (hQ : bsize Q <= 16) (hm : PartOk w ⟨pm, nm, cm, msg⟩) (hs : PartOk w ⟨ps, ns, cs, sig⟩) :
  Calls Tryz.prog 58 #[.pointer (some ⟨b, 0, none⟩), .agg #[.slice xa.1 xa.2.1 xa.2.2, .slice xb.1 xb.2.1 xb.2.2, .slice xy.1 xy.2.1 xy.2.2, .slice xz.1 xz.2.1 xz.2.2], .slice pm nm cm, .slice ps ns cs] w fun en w' => ∃ X, en = .returned (.bool X) /\ (X = true ↔ dlOk P Q A B Y Z msg sig) /\ Below w.heap.size w w' := by
 have hb0 : Below w.heap.size w (w.alloc (.cells #[.slice xa.1 xa.2.1 xa.2.2, .slice xb.1 xb.2.1 xb.2.2, .slice xy.1 xy.2.1 xy.2.2, .slice xz.1 xz.2.1 xz.2.2] 83)) := bal
 have hx0 := Box4.made 83 w (.slice xa.1 xa.2.1 xa.2.2) (.slice xb.1 xb.2.1 xb.2.2) (.slice xy.1 xy.2.1 xy.2.2) (.slice xz.1 xz.2.1 xz.2.2)
 obtain ⟨wa, hwa⟩ : ∃ wa, w.alloc (.cells #[.slice xa.1 xa.2.1 xa.2.2, .slice xb.1 xb.2.1 xb.2.2, .slice xy.1 xy.2.1 xy.2.2, .slice xz.1 xz.2.1 xz.2.2] 83) = wa := ⟨_, rfl⟩
 rw [hwa] at hb0 hx0
 have HC0 := hol hx0
 have HBL := hol hb0
 have HCA0 := hol (hC.below hb0)
 have HLA := hol lA
 have HLB := hol lB
 have HLY := hol lY
 have HLZ := hol lZ
 have HGA := hol hg
 have HT := hol hT
 have HM := hol hm
 have HPs := hol hP
 have HSG := hol (sigof_fit (QAt.of (hg.below hb0)) hQ (hs.below hb0))
 have HL := hol hg.lims
 clear hb0 hx0 hC lA lB lY lZ hg hT hm hP hs
 go_enter Tryz.func58, Tryz.ntmps58
 go_wp2_with fail
 refine HSG.out.mono ?_
 rintro en w1 ⟨x, y, X, rfl, hX, hN, hb1⟩
 have hb2 : Below w1.heap.size w1 (w1.alloc (.cells #[.slice x.1 x.2.1 x.2.2, .slice y.1 y.2.1 y.2.2] 142)) := bal
 have hS2 := SigBox.made w1 (.slice x.1 x.2.1 x.2.2) (.slice y.1 y.2.1 y.2.2)
 obtain ⟨b9, hb9⟩ : ∃ b, w1.heap.size = b := ⟨_, rfl⟩
 obtain ⟨w2, hw2⟩ : ∃ W, w1.alloc (.cells #[.slice x.1 x.2.1 x.2.2, .slice y.1 y.2.1 y.2.2] 142) = W := ⟨_, rfl⟩
 rw [hw2] at hb2 hS2
 rw [hb9] at hS2
 have hb12 := bstep hb1 hb2
 have HS2 := hol hS2
 have HN2 : Hold (sigIn Q sig -> At3 w2 x (be (sig.take (bsize Q))) /\ At3 w2 y (be (sig.drop (bsize Q)))) := ⟨fun h => ⟨(hN h).1.below hb2, (hN h).2.below hb2⟩⟩
 have HC2 := hol (HC0.out.below hb12 HC0.out.lt)
 have HCA2 := hol (HCA0.out.below hb12)
 have HB2 := hol (bstep HBL.out hb12)
 have HXI := hol hX
 clear hX hN hb1 hb2 hS2 hb12 HC0 HCA0 HBL HSG hwa
 cases X with
 | false =>
  have HF : Hold (false = true ↔ dlOk P Q A B Y Z msg sig) := ⟨⟨(fun h => by cases h), fun h => HXI.out.2 h.1⟩⟩
  go_wp2
  go_ret
  exact ⟨false, rfl, HF.out, HB2.out⟩
 | true =>
  have hin := HXI.out.1 rfl
  have HIN := hol hin
  have hn := HN2.out hin
  have HCN2 := hol hn.1
  have HSN2 := hol hn.2
  obtain ⟨g0, g1, g2, g3⟩ := (cells4 HC2.out.at_).1
  obtain ⟨CC, hCC⟩ : ∃ C, be (sig.take (bsize Q)) = C := ⟨_, rfl⟩
  obtain ⟨SS, hSS⟩ : ∃ C, be (sig.drop (bsize Q)) = C := ⟨_, rfl⟩
  rw [hCC] at HCN2
  rw [hSS] at HSN2
  have HCL : Hold (CC < B32 33) := ⟨by rw [<- hCC]; exact Nat.lt_trans hin.2.1 HL.out.2.2.2⟩
  have HSL : Hold (SS < B32 33) := ⟨by rw [<- hSS]; exact Nat.lt_trans hin.2.2 HL.out.2.2.2⟩
  have HOK : Hold (dlOk P Q A B Y Z msg sig ↔ dlMem P Q A B Y Z /\ dlCh P Q A B Y Z (sigA P A Y CC SS) (sigA P B Z CC SS) msg = CC) := ⟨by
   unfold dlOk
   rw [hCC, hSS]
   exact ⟨fun h => h.2, fun h => ⟨hin, h⟩⟩⟩
  have hb3 : Below w2.heap.size w2 (w2.alloc (.cells #[.slice xa.1 xa.2.1 xa.2.2, .slice xb.1 xb.2.1 xb.2.2, .slice xy.1 xy.2.1 xy.2.2, .slice xz.1 xz.2.1 xz.2.2] 36)) := bal
  have hr3 : (w2.alloc (.cells #[.slice xa.1 xa.2.1 xa.2.2, .slice xb.1 xb.2.1 xb.2.2, .slice xy.1 xy.2.1 xy.2.2, .slice xz.1 xz.2.1 xz.2.2] 36)).heap[w2.heap.size]? = some (.cells #[.slice xa.1 xa.2.1 xa.2.2, .slice xb.1 xb.2.1 xb.2.2, .slice xy.1 xy.2.1 xy.2.2, .slice xz.1 xz.2.1 xz.2.2] 36 (0, 0)) := heap_alloc_new w2 _
  obtain ⟨w3, hw3⟩ : ∃ W, w2.alloc (.cells #[.slice xa.1 xa.2.1 xa.2.2, .slice xb.1 xb.2.1 xb.2.2, .slice xy.1 xy.2.1 xy.2.2, .slice xz.1 xz.2.1 xz.2.2] 36) = W := ⟨_, rfl⟩
  rw [hw3] at hb3 hr3
  have HB3 := hol (bstep HB2.out hb3)
  have HPL := hol (plist_row (us := [xa, xb, xy, xz]) (Ns := [A, B, Y, Z]) hr3 (trip4 (HCA2.out.below hb3) HLA.out HLB.out HLY.out HLZ.out) (show 4 <= 1000000 by decide))
  have HC3 := hol (HC2.out.below hb3 HC2.out.lt)
  have HCA3 := hol (HCA2.out.below hb3)
  have HS3 := hol (HS2.out.below hb3 HS2.out.lt)
  have HCN3 : Hold (At3 w3 x CC) := ⟨HCN2.out.below hb3⟩
  have HSN3 : Hold (At3 w3 y SS) := ⟨HSN2.out.below hb3⟩
  clear hCC hSS hin hn HN2 HXI hb3 hr3 HC2 HCA2 HS2 HCN2 HSN2 HB2
  by_cases hmm : dlMem P Q A B Y Z
  ·have HMT : Hold _ := ⟨all4.2 hmm⟩
   have HMM := hol hmm
   clear hmm
   go_wp2_with fail
   refine (aremem_fit (HGA.out.below HB3.out) HPL.out (by decide)).mono ?_
   rintro en w4 ⟨rfl, hb4⟩
   rw [HMT.out]
   have HB4 := hol (bstep HB3.out hb4)
   have HC4 := hol (HC3.out.below hb4 HC3.out.lt)
   have HCA := hol (HCA3.out.below hb4)
   have HS9 := hol (HS3.out.below hb4 HS3.out.lt)
   have HCN : Hold (At3 w4 x CC) := ⟨HCN3.out.below hb4⟩
   have HSN : Hold (At3 w4 y SS) := ⟨HSN3.out.below hb4⟩
   have HG := hol (HGA.out.below HB4.out)
   obtain ⟨UU, hUU⟩ : ∃ C, sigA P A Y CC SS = C := ⟨_, rfl⟩
   obtain ⟨VV, hVV⟩ : ∃ C, sigA P B Z CC SS = C := ⟨_, rfl⟩
   have HUE := hol hUU
   have HVE := hol hVV
   have HUl : Hold (UU < P) := ⟨by rw [<- hUU]; exact Nat.mod_lt _ (by have := HL.out.1; omega)⟩
   have HVl : Hold (VV < P) := ⟨by rw [<- hVV]; exact Nat.mod_lt _ (by have := HL.out.1; omega)⟩
   clear hUU hVV hb4 g0 g1 g2 g3 HC3 HCA3 HS3 HCN3 HSN3 HB3 HPL
   go_wp2
   clear hw2 hw3 hb9
   refine wp_region_dutiesS (by kernel_rfl) (by kernel_rfl)
    [some (.agg #[.slice x.1 x.2.1 x.2.2, .slice y.1 y.2.1 y.2.2]), some (.pointer (some ⟨b, 0, none⟩)), some (.pointer (some ⟨w.heap.size, 0, none⟩)), some (.agg #[.slice xa.1 xa.2.1 xa.2.2]), some (.pointer (some ⟨w.heap.size, 2, none⟩)), some (.agg #[.slice xy.1 xy.2.1 xy.2.2]), none, some (.agg #[.slice x.1 x.2.1 x.2.2, .slice y.1 y.2.1 y.2.2]), some (.pointer (some ⟨b, 0, none⟩)), some (.pointer (some ⟨w.heap.size, 1, none⟩)), some (.agg #[.slice xb.1 xb.2.1 xb.2.2]), some (.pointer (some ⟨w.heap.size, 3, none⟩)), some (.agg #[.slice xz.1 xz.2.1 xz.2.2]), none, none, none, none, none]
    [false, false, false, false, false, false, true, false, false, false, false, false, false, true, true, true, true, true] rfl
    (fun _ _ => True) (fun D sp w' => TB w4 UU VV (D 6) (D 13) (D 14) (D 15) (D 16) (D 17) (sp 6) (sp 13) (sp 14) (sp 15) w') (fun _ _ _ => True) (fun _ _ _ _ _ _ => trivial)
    TB.start ?_ ?_
   ·simp only [DutiesS, Nat.reduceAdd]
    refine ⟨?_, ?_, ?_, ?_, ?_, ?_, ?_, ?_, ?_, ?_, ?_, ?_, ?_, ?_, ?_, ?_, ?_, ?_, trivial⟩
    case refine_7 =>
     intro D sp w' hD hW hdp hg
     rw [hD] at hg
     (with_reducible refine asked_call (w1 := w') (f := 103) (args := #[.agg #[.slice x.1 x.2.1 x.2.2, .slice y.1 y.2.1 y.2.2], .pointer (some ⟨b, 0, none⟩), .agg #[.slice xa.1 xa.2.1 xa.2.2], .agg #[.slice xy.1 xy.2.1 xy.2.2]]) ?_ ?_ ?_)
     ·simp only [Region.wanted]
     ·simp [Act.eval, Act.put, go_sem]
     ·refine (drawn_fit (HG.out.below hg.bel) (Fit.of (HCA.out.below hg.bel).1 HLA.out) (Fit.of (HCA.out.below hg.bel).2.2.1 HLY.out) (by decide) (by decide) (HCN.out.below hg.bel) (HSN.out.below hg.bel) HCL.out HSL.out).mono ?_
      rintro en w9 ⟨u, rfl, hu, hb⟩
      rw [HUE.out] at hu
      exact ⟨u, rfl, trivial, trivial, by simpa [upd] using (hg.later hb).put3 hu⟩
    case refine_14 =>
     intro D sp w' hD hW hdp hg
     rw [hD] at hg
     (with_reducible refine asked_call (w1 := w') (f := 103) (args := #[.agg #[.slice x.1 x.2.1 x.2.2, .slice y.1 y.2.1 y.2.2], .pointer (some ⟨b, 0, none⟩), .agg #[.slice xb.1 xb.2.1 xb.2.2], .agg #[.slice xz.1 xz.2.1 xz.2.2]]) ?_ ?_ ?_)
     ·simp only [Region.wanted]
     ·simp [Act.eval, Act.put, go_sem]
     ·refine (drawn_fit (HG.out.below hg.bel) (Fit.of (HCA.out.below hg.bel).2.1 HLB.out) (Fit.of (HCA.out.below hg.bel).2.2.2 HLZ.out) (by decide) (by decide) (HCN.out.below hg.bel) (HSN.out.below hg.bel) HCL.out HSL.out).mono ?_
      rintro en w9 ⟨u, rfl, hu, hb⟩
      rw [HVE.out] at hu
      exact ⟨u, rfl, trivial, trivial, by simpa [upd] using (hg.later hb).put7 hu⟩
    case refine_15 =>
     intro D sp w' hD hW hdp hg
     rw [hD] at hg
     have d0 := hg.no10
     rw [d0] at hg
     (with_reducible refine asked_value (w1 := w'.alloc (.cells #[.slice none 0 0] 36)) (v := .pointer (some ⟨w'.heap.size, 0, none⟩)) ?_ ?_ ?_)
     ·simp only [Region.wanted]
     ·simp [execOp, go_sem]
     ·exact ⟨trivial, trivial, by simpa [upd, d0] using hg.put8⟩
    case refine_16 =>
     intro D sp w' hD hW hdp hg
     rw [hD] at hg
     have d0 := hg.no11
     rw [d0] at hg
     (with_reducible refine asked_value (w1 := w'.alloc (.cells #[.slice none 0 0] 36)) (v := .pointer (some ⟨w'.heap.size, 0, none⟩)) ?_ ?_ ?_)
     ·simp only [Region.wanted]
     ·simp [execOp, go_sem]
     ·exact ⟨trivial, trivial, by simpa [upd, d0] using hg.put9⟩
    case refine_17 =>
     intro D sp w' hD hW hdp hg
     have d3 : D 6 = true := (hdp 6 (mq (by kernel_rfl))).1
     have d8 : D 14 = true := (hdp 14 (mq (by kernel_rfl))).1
     rw [hD, d3, d8] at hg
     (with_reducible refine Exists.elim (hg.put10) fun b g0 => Exists.elim (g0) fun m g1 => Exists.elim (g1) fun d g2 => Exists.elim (g2) fun q g3 => Exists.elim (g3) fun p g4 => Exists.elim (g4) fun n9 g5 => Exists.elim (g5) fun c9 g6 => ?_)
     have e8 := g6.1
     have e3 := g6.2.1
     have h6 := g6.2.2.1.cell
     have h7 := g6.2.2.1.free
     (with_reducible refine asked_skip (w1 := w'.setCell ⟨b, 0, none⟩ (.slice p n9 c9)) ?_ ?_ ?_)
     ·simp only [Region.wanted]
     ·simp [execOp, Act.eval, Act.put, go_sem, e8, e3, h6, h7]
     ·exact ⟨trivial, trivial, by simpa [upd, d3, d8] using g6.2.2.2⟩
    case refine_18 =>
     intro D sp w' hD hW hdp hg
     have d3 : D 13 = true := (hdp 13 (mq (by kernel_rfl))).1
     have d8 : D 15 = true := (hdp 15 (mq (by kernel_rfl))).1
     rw [hD, d3, d8] at hg
     (with_reducible refine Exists.elim (hg.put11) fun b g0 => Exists.elim (g0) fun m g1 => Exists.elim (g1) fun d g2 => Exists.elim (g2) fun q g3 => Exists.elim (g3) fun p g4 => Exists.elim (g4) fun n9 g5 => Exists.elim (g5) fun c9 g6 => ?_)
     have e8 := g6.1
     have e3 := g6.2.1
     have h6 := g6.2.2.1.cell
     have h7 := g6.2.2.1.free
     (with_reducible refine asked_skip (w1 := w'.setCell ⟨b, 0, none⟩ (.slice p n9 c9)) ?_ ?_ ?_)
     ·simp only [Region.wanted]
     ·simp [execOp, Act.eval, Act.put, go_sem, e8, e3, h6, h7]
     ·exact ⟨trivial, trivial, by simpa [upd, d3, d8] using g6.2.2.2⟩
    all_goals
     intro D sp w' hD hW hdp hg
     have g0 := (cells4 (HC4.out.below hg.bel HC4.out.lt).at_).1
     have s0 := (HS9.out.below hg.bel HS9.out.lt).cells
     simp [asked, Region.wanted, Oper.gives, execOp, Act.eval, Act.put, go_sem, g0.1, g0.2.1, g0.2.2.1, g0.2.2.2, s0.1, s0.2]
   ·intro sp w5 hsp hg
    obtain ⟨b11, e14, _, ⟨pu, nu, cu, hxu, hnu⟩, _⟩ := hg.b8 rfl
    obtain ⟨b12, e15, _, ⟨pv, nv, cv, hxv, hnv⟩, _⟩ := hg.b9 rfl
    replace hnu := hnu rfl
    replace hnv := hnv rfl
    have hbel := hg.bel
    have HXU := hol hxu
    have HXV := hol hxv
    have HNU : Hold (At3 w5 (pu, nu, cu) UU) := ⟨hnu⟩
    have HNV : Hold (At3 w5 (pv, nv, cv) VV) := ⟨hnv⟩
    have HB5 := hol (bstep HB4.out hbel)
    have HC5 := hol (HC4.out.below hbel HC4.out.lt)
    have HCA5 := hol (HCA.out.below hbel)
    have HS5 := hol (HS9.out.below hbel HS9.out.lt)
    have HCN5 := hol (HCN.out.below hbel)
    have HG5 := hol (HGA.out.below HB5.out)
    have HT5 := hol (HT.out.below HB5.out HT.out.size)
    have HM5 := hol (HM.out.below HB5.out)
    obtain ⟨CH, hCH⟩ : ∃ C, dlCh P Q A B Y Z UU VV msg = C := ⟨_, rfl⟩
    obtain ⟨KC, hKC⟩ : ∃ K, cmpI CH CC = K := ⟨_, rfl⟩
    obtain ⟨ANS, hANS⟩ : ∃ A, ((KC : Int) == 0) = A := ⟨_, rfl⟩
    have hE := hANS
    have HCH := hol hCH
    have HKc := hol hKC
    have HF : Hold (ANS = true ↔ dlOk P Q A B Y Z msg sig) := ⟨by
     rw [HOK.out, HUE.out, HVE.out, hCH, <- hANS, <- hKC, beq_iff_eq, cmpI_zero]
     exact ⟨fun h => ⟨HMM.out, h⟩, fun h => h.2⟩⟩
    clear hsp hg hxu hnu hxv hnv hbel hCH hKC hANS HC4 HCA HS9 HCN HSN HG
    simp only [frameOf, Nat.reduceAdd]
    rw [e14, e15]
    clear e14 e15
    generalize sp 6 = y6, sp 13 = y13, sp 16 = y16, sp 17 = y17 at *
    go_simp
    go_wp2
    refine wp_region_duties (by kernel_rfl) (by kernel_rfl)
     [some (.agg #[.slice xa.1 xa.2.1 xa.2.2, .slice xb.1 xb.2.1 xb.2.2, .slice xy.1 xy.2.1 xy.2.2, .slice xz.1 xz.2.1 xz.2.2]), some (.pointer (some ⟨b, 0, none⟩)), some (.agg #[.slice pu nu cu]), some (.agg #[.slice pv nv cv]), some (.slice pm nm cm), none, some (.pointer (some ⟨b9, 0, none⟩)), some (.agg #[.slice x.1 x.2.1 x.2.2]), none, some (.bool ANS), some (.bool ANS)]
     [false, false, false, false, false, true, false, false, true, false, false] rfl
     (fun w1 w2 => Below w1.heap.size w1 w2)
     (fun _ w' => Below w5.heap.size w5 w')
     (fun i v w' => match i with
      | 5 => Fit 33 (CH) v w'
      | 8 => v = .int .i64 KC
      | _ => True)
     ?_ (Below.refl _ _).drew ?_ ?_
    ·intro i v w1 w2 hf hb
     split at hf
     ·exact hf.below hb
     ·exact hf
     ·trivial
    ·simp only [Duties, Nat.reduceAdd]
     refine ⟨?_, ?_, ?_, ?_, ?_, ?_, ?_, ?_, ?_, ?_, ?_, trivial⟩
     all_goals intro D sp w' hD hW hdp hbx'
     case refine_1 =>
      have g0 := (cells4 (HC5.out.below hbx' HC5.out.lt).at_).1
      with_reducible refine asked_pl ?_ ?_
      all_goals simp [Region.wanted, yielded, execOp, Act.eval, Act.put, go_sem, g0.1, g0.2.1, g0.2.2.1, g0.2.2.2]
     case refine_3 =>
      have c0 := (HXU.out.below hbx' HXU.out.lt).cell
      with_reducible refine asked_pl ?_ ?_
      all_goals simp [Region.wanted, yielded, execOp, Act.eval, Act.put, go_sem, c0]
     case refine_4 =>
      have c0 := (HXV.out.below hbx' HXV.out.lt).cell
      with_reducible refine asked_pl ?_ ?_
      all_goals simp [Region.wanted, yielded, execOp, Act.eval, Act.put, go_sem, c0]
     case refine_6 =>
      (with_reducible refine asked_call (w1 := w') (f := 115) (args := #[.agg #[.slice xa.1 xa.2.1 xa.2.2, .slice xb.1 xb.2.1 xb.2.2, .slice xy.1 xy.2.1 xy.2.2, .slice xz.1 xz.2.1 xz.2.2], .pointer (some ⟨b, 0, none⟩), .agg #[.slice pu nu cu], .agg #[.slice pv nv cv], .slice pm nm cm]) ?_ ?_ ?_)
      ·simp [Region.wanted, yielded, Act.put, go_sem]
      ·simp [Act.eval, Act.put, go_sem]
      ·refine (dlchal_fit (HG5.out.below hbx') (HT5.out.below hbx' HT5.out.size) (HCA5.out.below hbx') (xu := (pu, nu, cu)) (xv := (pv, nv, cv)) (HNU.out.below hbx') (HNV.out.below hbx') HMM.out.1.2.1 HMM.out.2.1.2.1 HMM.out.2.2.1.2.1 HMM.out.2.2.2.2.1 HUl.out HVl.out HPs.out (HM5.out.below hbx')).mono ?_
       rintro en w9 ⟨u, rfl, hu, hb⟩
       rw [HCH.out] at hu
       exact ⟨u, rfl, hb, hu, bstep hbx' hb⟩
     case refine_8 =>
      have c0 := (HS5.out.below hbx' HS5.out.lt).cells.1
      with_reducible refine asked_pl ?_ ?_
      all_goals simp [Region.wanted, yielded, execOp, Act.eval, Act.put, go_sem, c0]
     case refine_9 =>
      have k5 : Fit 33 (CH) (sp 5) w' := (hdp 5 (mq (by kernel_rfl))).2
      (with_reducible refine asked_call (w1 := w') (f := 33) (args := #[sp 5, .agg #[.slice x.1 x.2.1 x.2.2]]) ?_ ?_ ?_)
      ·simp [Region.wanted, yielded, Act.put, go_sem]
      ·simp [Act.eval, Act.put, go_sem]
      ·refine (cmp_fitK k5 (Fit.of (HCN5.out.below hbx') HCL.out) (by decide) (by decide) HKc.out).mono ?_
       rintro en w9 ⟨u, rfl, rfl, hb⟩
       exact ⟨_, rfl, hb, rfl, bstep hbx' hb⟩
     case refine_10 =>
      have k8 : (sp 8) = .int .i64 KC := (hdp 8 (mq (by kernel_rfl))).2
      with_reducible refine asked_pl ?_ ?_
      all_goals simp [Region.wanted, yielded, execOp, Act.eval, Act.put, go_sem, k8, hE]
     all_goals ((with_reducible refine asked_pl ?_ ?_); all_goals first | (simp only [Region.wanted]; done) | simp [Region.wanted, yielded, execOp, Act.eval, Act.put, go_sem])
    ·intro sp w8 hsp hb8
     have HBf := hol (bstep HB5.out hb8)
     clear hsp hb8 hE
     simp only [frameOf, Nat.reduceAdd]
     generalize sp 5 = y5, sp 8 = y8 at *
     go_simp
     go_wp2
     go_ret
     exact ⟨ANS, rfl, HF.out, HBf.out⟩
  ·have HMT : Hold ([A, B, Y, Z].all (memB P Q) = false) := ⟨Bool.eq_false_iff.2 fun h => hmm (all4.1 h)⟩
   have HF : Hold (false = true ↔ dlOk P Q A B Y Z msg sig) := ⟨⟨(fun h => by cases h), fun h => absurd (HOK.out.1 h).1 hmm⟩⟩
   clear hmm
   go_wp2_with fail
   refine (aremem_fit (HGA.out.below HB3.out) HPL.out (by decide)).mono ?_
   rintro en w4 ⟨rfl, hb4⟩
   rw [HMT.out]
   have HB4 := hol (bstep HB3.out hb4)
   clear hb4 g0 g1 g2 g3
   go_wp2
   go_ret
   exact ⟨false, rfl, HF.out, HB4.out⟩
end Go.Proofs.YthgoeiegdhphjaaGreatDoor
