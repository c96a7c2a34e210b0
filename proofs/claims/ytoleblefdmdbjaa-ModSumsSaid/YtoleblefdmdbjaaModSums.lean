/- The law of rings. -/
import Derived.Test.YtoleblefdmdbjaaLawB
import Derived.Test.YtoleblefdmdbjaaSmall
namespace Go.Proofs.Ytoleblefdmdbjaa
open Go Go.RowKit Go.Proofs.Ytoleblefdmdbjaa.Flow

theorem new_fit (n : Nat) (e : Nat) (w : World) (h : n < 18446744073709551616) (he : n < B32 e) :
    Calls Try.prog 19 #[.int .u64 n] w fun en w' => ∃ x, en = .returned x ∧ Fit e n x w' ∧ Below w.heap.size w w' := by
  refine (new_calls n w h).mono ?_
  rintro en w' ⟨p, m, c, rfl, hn, hb, _⟩
  exact ⟨_, rfl, Fit.of hn he, hb⟩
theorem seven_fit (w : World) : Calls Try.prog 19 #[.int .u64 7] w fun en w' => ∃ x, en = .returned x ∧ Fit 1 7 x w' ∧ Below w.heap.size w w' := new_fit 7 1 w (by decide) (by decide)
theorem five_fit (w : World) : Calls Try.prog 19 #[.int .u64 5] w fun en w' => ∃ x, en = .returned x ∧ Fit 1 5 x w' ∧ Below w.heap.size w w' := new_fit 5 1 w (by decide) (by decide)
theorem three_fit (w : World) : Calls Try.prog 19 #[.int .u64 3] w fun en w' => ∃ x, en = .returned x ∧ Fit 1 3 x w' ∧ Below w.heap.size w w' := new_fit 3 1 w (by decide) (by decide)
theorem four_fit (w : World) : Calls Try.prog 19 #[.int .u64 4] w fun en w' => ∃ x, en = .returned x ∧ Fit 1 4 x w' ∧ Below w.heap.size w w' := new_fit 4 1 w (by decide) (by decide)

theorem str_four : leastStr 4 = ⟨#[4]⟩ := by
  have h : beOf 4 (bsize 4) = [4] := by decide
  unfold leastStr; rw [h]; rfl
theorem least4_conv {v : Value} {w : World} (h : LeastVal 4 v w) : (convert 22 9 v).run Try.prog w = .ok (.string ⟨#[4]⟩) w := by
  have := leastStr_conv h
  rwa [str_four] at this

set_option maxHeartbeats 2000000 in
theorem lives2_calls (w : World) : Calls Try.prog 40 #[] w fun e w' => e = .returned (.bool true) ∧ Below w.heap.size w w' := by
  go_enter Try.func40, Try.ntmps40
  go_wp2_with fail
  refine (seven_fit _).mono ?_
  rintro e w1 ⟨v7, rfl, h7, hbw⟩
  go_wp2_with fail
  refine (rngnew_fit h7 (by omega)).mono ?_
  rintro e w2 ⟨hb, hcase⟩
  replace hbw := bstep hbw hb
  rcases hcase with ⟨hlt, _⟩ | ⟨_, r, rfl, hR, _⟩
  · omega
  clear h7 hb
  go_wp2_with fail
  refine (two_fit _).mono ?_
  rintro e w3 ⟨v2, rfl, h2, hb⟩
  replace hbw := bstep hbw hb
  replace hR := hR.below hb
  go_wp2_with fail
  refine (five_fit _).mono ?_
  rintro e w4 ⟨v5, rfl, h5, hb⟩
  replace hbw := bstep hbw hb
  replace hR := hR.below hb
  replace h2 := h2.below hb
  go_wp2_with fail
  refine (rngsub_fit hR h2 h5 (by omega) (by omega)).mono ?_
  rintro e w5 ⟨vs, rfl, hs, hb⟩
  replace hs : Fit 1 4 vs w5 := hs
  replace hbw := bstep hbw hb
  replace hR := hR.below hb
  clear h2 h5 hb
  go_wp2_with fail
  refine (least_fit hs (by omega)).mono ?_
  rintro e w6 ⟨vl, rfl, hl, hb⟩
  replace hbw := bstep hbw hb
  replace hR := hR.below hb
  have hc := least4_conv hl
  clear hs hl hb
  go_wp2_with fail
  clear hc
  refine (three_fit _).mono ?_
  rintro e w7 ⟨v3, rfl, h3, hb⟩
  replace hbw := bstep hbw hb
  replace hR := hR.below hb
  go_wp2_with fail
  refine (four_fit _).mono ?_
  rintro e w8 ⟨v4, rfl, h4, hb⟩
  replace hbw := bstep hbw hb
  replace hR := hR.below hb
  replace h3 := h3.below hb
  go_wp2_with fail
  refine (rexp_fit hR h3 h4 (by omega) (by omega)).mono ?_
  rintro e w9 ⟨ve, rfl, he, hb⟩
  replace he : Fit 1 4 ve w9 := he
  replace hbw := bstep hbw hb
  clear h3 h4 hb
  go_wp2_with fail
  refine (least_fit he (by omega)).mono ?_
  rintro e w10 ⟨vl, rfl, hl, hb⟩
  replace hbw := bstep hbw hb
  have hc := least4_conv hl
  clear he hl hb
  go_wp2
  go_ret
  exact ⟨rfl, hbw⟩

theorem small2_calls (w : World) : Calls Try.prog 23 #[.int .u64 2] w (GivesBits 2 w) := small_calls 2 w (by decide)

set_option maxHeartbeats 8000000 in
set_option maxRecDepth 1000000 in
theorem modsums_law (w : World) (pm : Option Addr) (nm cm : Nat) (Z : List Nat) (px : Option Addr) (nx cx : Nat) (X : List Nat) (py : Option Addr) (ny cy : Nat) (Y : List Nat)
    (hZ : RowIn w .u8 pm nm cm Z) (hZ8 : Bytes8 Z) (hX : RowIn w .u8 px nx cx X) (hX8 : Bytes8 X) (hY : RowIn w .u8 py ny cy Y) (hY8 : Bytes8 Y) :
    Calls Try.prog 12 #[.slice pm nm cm, .slice px nx cx, .slice py ny cy] w (Yes w) := by
  have hcm := hZ.cap
  have hcm2 := hZ.max
  obtain ⟨n1, l1, l2, hZ1, hq1⟩ := cut_in hZ
  have hc1 : n1 ≤ cm := by omega
  have HQ1 := Lib.hid hq1
  have HZ1 := Lib.hid hZ1
  clear hq1 hZ1
  go_enter Try.func12, Try.ntmps12
  go_wp2_with fail
  refine (lives2_calls _).mono ?_
  rintro e w1 ⟨rfl, hbw⟩
  go_wp2_with fail
  refine (lring_fit (hZ.below hbw) hZ8).mono ?_
  rintro e w2 ⟨rp, qM, mM, dM, rfl, hM, hb, hcase⟩
  replace hbw := bstep hbw hb
  have hlM := Lib.hid (numC_lt hZ8)
  obtain ⟨M, hMv⟩ : ∃ M, numC Z = M := ⟨_, rfl⟩
  rw [hMv] at hM hcase hlM
  have HMV := Lib.hid hMv
  clear hMv hb
  go_wp2_with fail
  refine (lnum_fit (hX.below hbw) hX8).mono ?_
  rintro e w3 ⟨pa, na, ca, q1, m1, d1, rfl, hA, hP, hb⟩
  replace hbw := bstep hbw hb
  replace hM := hM.below hb
  have hlX := Lib.hid (numC_lt hX8)
  generalize numC X = x at *
  have hb3 : Below w3.heap.size w3 (w3.alloc (.cells #[.slice pa na ca] 26)) := (Below.refl _ _).alloc (Nat.le_refl _) _
  have hxa := NatBox.made w3 (.slice pa na ca)
  replace hA := hA.below hb3
  replace hP := hP.below hb3
  replace hM := hM.below hb3
  have hb23 := bstep hb hb3
  replace hbw := bstep hbw hb3
  clear hb hb3
  go_wp2_with fail
  refine (lnum_fit (hY.below hbw) hY8).mono ?_
  rintro e w4 ⟨pb, nb, cb, q2, m2, d2, rfl, hB, hQ, hb⟩
  replace hxa := hxa.below hb hxa.lt
  replace hA := hA.below hb
  replace hP := hP.below hb
  replace hM := hM.below hb
  have hlY := Lib.hid (numC_lt hY8)
  generalize numC Y = y at *
  have hb4 : Below w4.heap.size w4 (w4.alloc (.cells #[.slice pb nb cb] 26)) := (Below.refl _ _).alloc (Nat.le_refl _) _
  have hyb := NatBox.made w4 (.slice pb nb cb)
  replace hxa := hxa.below hb4 hxa.lt
  replace hA := hA.below hb4
  replace hP := hP.below hb4
  replace hM := hM.below hb4
  replace hB := hB.below hb4
  replace hQ := hQ.below hb4
  have hb24 := bstep (bstep hb23 hb) hb4
  replace hbw := bstep (bstep hbw hb) hb4
  have hbx : blen x ≤ 192 := lim_blen hlX.out
  have hby : blen y ≤ 192 := lim_blen hlY.out
  have hbM : blen M ≤ 192 := lim_blen hlM.out
  clear hb hb4 hb23 hX hY
  obtain ⟨w5, hw5⟩ : ∃ w5, w4.alloc (.cells #[.slice pb nb cb] 26) = w5 := ⟨_, rfl⟩
  rw [hw5] at hxa hyb hA hP hM hB hQ hbw hb24
  have HW5 := Lib.hid hw5
  clear hw5
  obtain ⟨K, hK⟩ : ∃ K, cmpI M 2 = K := ⟨_, rfl⟩
  have HK := Lib.hid hK
  clear hK
  rcases hcase with ⟨hlt, rfl⟩ | ⟨hge, r, rfl, hR⟩
  · have hKv : Hid (K = -1) := Lib.hid (by rw [← HK.out, cmpI_lt hlt])
    have HLT := Lib.hid hlt
    clear hlt
    go_wp2_with fail
    rw [HW5.out]
    refine (small2_calls _).mono ?_
    rintro e w6 ⟨q3, m3, d3, rfl, hS, hb, _⟩
    replace hbw := bstep hbw hb
    replace hA := hA.below hb
    replace hxa := hxa.below hb hxa.lt
    replace hM := hM.below hb
    go_wp2_with fail
    refine (rcmp_fit (RBits.of hM) (RBits.of hS) (by omega) (by decide)).mono ?_
    rintro e w7 ⟨v, rfl, rfl, hb⟩
    rw [HK.out, hKv.out]
    replace hbw := bstep hbw hb
    replace hA := hA.below hb
    replace hxa := hxa.below hb hxa.lt
    have hq1 := HQ1.out
    clear hM hS hb
    go_wp2_with fail
    clear hq1
    refine (num_cut_fit (HZ1.out.below hbw) hZ8).mono ?_
    rintro e w8 ⟨p4, n4, c4, rfl, hN, hb⟩
    rw [HMV.out] at hN
    replace hbw := bstep hbw hb
    replace hA := hA.below hb
    replace hxa := hxa.below hb hxa.lt
    clear hb
    go_wp2_with fail
    refine (rngnew_fit hN (by omega)).mono ?_
    rintro e w9 ⟨hb, hcase⟩
    replace hbw := bstep hbw hb
    replace hA := hA.below hb
    replace hxa := hxa.below hb hxa.lt
    have hlt := HLT.out
    rcases hcase with ⟨_, rfl⟩ | ⟨hge, _⟩
    case inr => omega
    have ka := hxa.cell
    clear hb hN hlt
    go_wp2_with fail
    refine (inv_nil hA).mono ?_
    rintro e w10 ⟨rfl, hb⟩
    replace hbw := bstep hbw hb
    replace hA := hA.below hb
    replace hxa := hxa.below hb hxa.lt
    have hbz : Below w10.heap.size w10 (w10.alloc (.cells #[.slice none 0 0] 26)) := (Below.refl _ _).alloc (Nat.le_refl _) _
    replace hbw := bstep hbw hbz
    replace hA := hA.below hbz
    replace hxa := hxa.below hbz hxa.lt
    have kb := hxa.cell
    clear hb ka hbz
    go_wp2_with fail
    refine (of_nil hA).mono ?_
    rintro e w11 ⟨rfl, hb⟩
    replace hbw := bstep hbw hb
    go_wp2_with fail
    refine (zero_fitB (fit_nil _) (t := true) (by decide)).mono ?_
    rintro e w12 ⟨_, rfl, rfl, hb⟩
    replace hbw := bstep hbw hb
    go_wp2_with fail
    refine (modulus_nil _).mono ?_
    rintro e w13 ⟨rfl, hb⟩
    replace hbw := bstep hbw hb
    go_wp2_with fail
    refine (zero_fitB (fit_nil _) (t := true) (by decide)).mono ?_
    rintro e w14 ⟨_, rfl, rfl, hb⟩
    replace hbw := bstep hbw hb
    go_wp2
    go_ret
    exact ⟨rfl, hbw⟩
  · have hKv : Hid (¬ K < 0) := Lib.hid (by rw [← HK.out]; unfold cmpI; rw [if_neg (by omega)]; split <;> omega)
    have HGE := Lib.hid hge
    have hM0 : Hid (0 < M) := Lib.hid (by omega)
    replace hR := hR.below hb24
    clear hge hb24
    go_wp2_with fail
    rw [HW5.out]
    refine (small2_calls _).mono ?_
    rintro e w6 ⟨q3, m3, d3, rfl, hS, hb, _⟩
    replace hbw := bstep hbw hb
    replace hA := hA.below hb
    replace hB := hB.below hb
    replace hP := hP.below hb
    replace hQ := hQ.below hb
    replace hR := hR.below hb
    replace hxa := hxa.below hb hxa.lt
    replace hyb := hyb.below hb hyb.lt
    replace hM := hM.below hb
    go_wp2_with fail
    refine (rcmp_fit (RBits.of hM) (RBits.of hS) (by omega) (by decide)).mono ?_
    rintro e w7 ⟨v, rfl, rfl, hb⟩
    rw [HK.out]
    have hkd : decide (K < 0) = false := decide_eq_false (by have := hKv.out; omega)
    replace hbw := bstep hbw hb
    replace hA := hA.below hb
    replace hB := hB.below hb
    replace hP := hP.below hb
    replace hQ := hQ.below hb
    replace hR := hR.below hb
    replace hxa := hxa.below hb hxa.lt
    replace hyb := hyb.below hb hyb.lt
    replace hM := hM.below hb
    clear hS
    go_wp2_with fail
    refine (modulus_fit hR).mono ?_
    rintro e w8 ⟨v1, rfl, hF, hb⟩
    replace hbw := bstep hbw hb
    replace hA := hA.below hb
    replace hB := hB.below hb
    replace hP := hP.below hb
    replace hQ := hQ.below hb
    replace hR := hR.below hb
    replace hxa := hxa.below hb hxa.lt
    replace hyb := hyb.below hb hyb.lt
    replace hM := hM.below hb
    clear hkd hb
    go_wp2_with fail
    refine (same_fit hF hM (by omega)).mono ?_
    rintro e w9 ⟨_, rfl, rfl, hb⟩
    replace hbw := bstep hbw hb
    replace hA := hA.below hb
    replace hB := hB.below hb
    replace hP := hP.below hb
    replace hQ := hQ.below hb
    replace hR := hR.below hb
    replace hxa := hxa.below hb hxa.lt
    replace hyb := hyb.below hb hyb.lt
    replace hM := hM.below hb
    clear hF hb
    have ka := hxa.cell
    go_wp2_with fail
    refine (rof_fit hR hA (by omega)).mono ?_
    rintro e w10 ⟨v2, rfl, hF, hb⟩
    replace hbw := bstep hbw hb
    replace hA := hA.below hb
    replace hB := hB.below hb
    replace hP := hP.below hb
    replace hQ := hQ.below hb
    replace hR := hR.below hb
    replace hxa := hxa.below hb hxa.lt
    replace hyb := hyb.below hb hyb.lt
    replace hM := hM.below hb
    clear ka hb
    go_wp2_with fail
    refine (dof_fit (RBits.of hP) (RBits.of hM) (by omega) (by omega) hM0.out).mono ?_
    rintro e w11 ⟨v3, rfl, hG, hb⟩
    replace hbw := bstep hbw hb
    replace hA := hA.below hb
    replace hB := hB.below hb
    replace hP := hP.below hb
    replace hQ := hQ.below hb
    replace hR := hR.below hb
    replace hxa := hxa.below hb hxa.lt
    replace hyb := hyb.below hb hyb.lt
    replace hM := hM.below hb
    replace hF := hF.below hb
    clear hb
    go_wp2_with fail
    refine (same_fit' hF hG (by omega)).mono ?_
    rintro e w12 ⟨_, rfl, rfl, hb⟩
    replace hbw := bstep hbw hb
    replace hA := hA.below hb
    replace hB := hB.below hb
    replace hP := hP.below hb
    replace hQ := hQ.below hb
    replace hR := hR.below hb
    replace hxa := hxa.below hb hxa.lt
    replace hyb := hyb.below hb hyb.lt
    replace hM := hM.below hb
    clear hF hG hb
    have ka := hxa.cell
    have kb := hyb.cell
    go_wp2_with fail
    refine (rngadd_fit hR hA hB (by omega) (by omega)).mono ?_
    rintro e w13 ⟨v2, rfl, hF, hb⟩
    replace hbw := bstep hbw hb
    replace hA := hA.below hb
    replace hB := hB.below hb
    replace hP := hP.below hb
    replace hQ := hQ.below hb
    replace hR := hR.below hb
    replace hxa := hxa.below hb hxa.lt
    replace hyb := hyb.below hb hyb.lt
    replace hM := hM.below hb
    clear ka kb hb
    go_wp2_with fail
    refine (dadd_fit (RBits.of hP) (RBits.of hQ) (RBits.of hM) (by omega) (by omega) (by omega) hM0.out).mono ?_
    rintro e w14 ⟨v3, rfl, hG, hb⟩
    replace hbw := bstep hbw hb
    replace hA := hA.below hb
    replace hB := hB.below hb
    replace hP := hP.below hb
    replace hQ := hQ.below hb
    replace hR := hR.below hb
    replace hxa := hxa.below hb hxa.lt
    replace hyb := hyb.below hb hyb.lt
    replace hM := hM.below hb
    replace hF := hF.below hb
    clear hb
    go_wp2_with fail
    refine (same_fit' hF hG (by omega)).mono ?_
    rintro e w15 ⟨_, rfl, rfl, hb⟩
    replace hbw := bstep hbw hb
    replace hA := hA.below hb
    replace hB := hB.below hb
    replace hP := hP.below hb
    replace hQ := hQ.below hb
    replace hR := hR.below hb
    replace hxa := hxa.below hb hxa.lt
    replace hyb := hyb.below hb hyb.lt
    replace hM := hM.below hb
    clear hF hG hb
    have ka := hxa.cell
    have kb := hyb.cell
    go_wp2_with fail
    refine (rngsub_fit hR hA hB (by omega) (by omega)).mono ?_
    rintro e w16 ⟨v2, rfl, hF, hb⟩
    replace hbw := bstep hbw hb
    replace hA := hA.below hb
    replace hB := hB.below hb
    replace hP := hP.below hb
    replace hQ := hQ.below hb
    replace hR := hR.below hb
    replace hxa := hxa.below hb hxa.lt
    replace hyb := hyb.below hb hyb.lt
    replace hM := hM.below hb
    clear ka kb hb
    go_wp2_with fail
    refine (dsub_fit (RBits.of hP) (RBits.of hQ) (RBits.of hM) (by omega) (by omega) (by omega) HGE.out).mono ?_
    rintro e w17 ⟨v3, rfl, hG, hb⟩
    replace hbw := bstep hbw hb
    replace hA := hA.below hb
    replace hB := hB.below hb
    replace hP := hP.below hb
    replace hQ := hQ.below hb
    replace hR := hR.below hb
    replace hxa := hxa.below hb hxa.lt
    replace hyb := hyb.below hb hyb.lt
    replace hM := hM.below hb
    replace hF := hF.below hb
    clear hb
    go_wp2_with fail
    refine (same_fit' hF hG (by omega)).mono ?_
    rintro e w18 ⟨_, rfl, rfl, hb⟩
    replace hbw := bstep hbw hb
    replace hA := hA.below hb
    replace hB := hB.below hb
    replace hP := hP.below hb
    replace hQ := hQ.below hb
    replace hR := hR.below hb
    replace hxa := hxa.below hb hxa.lt
    replace hyb := hyb.below hb hyb.lt
    replace hM := hM.below hb
    clear hF hG hb
    have ka := hxa.cell
    have kb := hyb.cell
    go_wp2_with fail
    refine (rngmul_fit hR hA hB (by omega) (by omega)).mono ?_
    rintro e w19 ⟨v2, rfl, hF, hb⟩
    replace hbw := bstep hbw hb
    replace hA := hA.below hb
    replace hB := hB.below hb
    replace hP := hP.below hb
    replace hQ := hQ.below hb
    replace hR := hR.below hb
    replace hxa := hxa.below hb hxa.lt
    replace hyb := hyb.below hb hyb.lt
    replace hM := hM.below hb
    clear ka kb hb
    go_wp2_with fail
    refine (dmul_fit (RBits.of hP) (RBits.of hQ) (RBits.of hM) (by omega) (by omega) (by omega) hM0.out).mono ?_
    rintro e w20 ⟨v3, rfl, hG, hb⟩
    replace hbw := bstep hbw hb
    replace hA := hA.below hb
    replace hB := hB.below hb
    replace hP := hP.below hb
    replace hQ := hQ.below hb
    replace hR := hR.below hb
    replace hxa := hxa.below hb hxa.lt
    replace hyb := hyb.below hb hyb.lt
    replace hM := hM.below hb
    replace hF := hF.below hb
    clear hb
    go_wp2_with fail
    refine (same_fit' hF hG (by omega)).mono ?_
    rintro e w21 ⟨_, rfl, rfl, hb⟩
    replace hbw := bstep hbw hb
    replace hA := hA.below hb
    replace hB := hB.below hb
    replace hP := hP.below hb
    replace hQ := hQ.below hb
    replace hR := hR.below hb
    replace hxa := hxa.below hb hxa.lt
    replace hyb := hyb.below hb hyb.lt
    replace hM := hM.below hb
    clear hF hG hb
    have ka := hxa.cell
    have kb := hyb.cell
    go_wp2
    go_ret
    exact ⟨rfl, hbw⟩

end Go.Proofs.Ytoleblefdmdbjaa
