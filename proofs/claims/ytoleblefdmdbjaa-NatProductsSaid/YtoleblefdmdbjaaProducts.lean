/- The law of products and quotients. -/
import Derived.Test.YtoleblefdmdbjaaFit5
import Derived.Test.YtoleblefdmdbjaaBack
namespace Go.Proofs.Ytoleblefdmdbjaa
open Go Go.RowKit Go.Proofs.Ytoleblefdmdbjaa.Flow

set_option maxHeartbeats 8000000 in
set_option maxRecDepth 1000000 in
theorem products_law (w : World) (px : Option Addr) (nx cx : Nat) (X : List Nat) (py : Option Addr) (ny cy : Nat) (Y : List Nat)
    (hX : RowIn w .u8 px nx cx X) (hX8 : Bytes8 X) (hY : RowIn w .u8 py ny cy Y) (hY8 : Bytes8 Y) :
    Calls Try.prog 6 #[.slice px nx cx, .slice py ny cy] w (Yes w) := by
  go_enter Try.func6, Try.ntmps6
  go_wp2_with fail
  refine (lives_calls _).mono ?_
  rintro e w1 ⟨rfl, hbw⟩
  go_wp2_with fail
  refine (num_fit (hX.below hbw) hX8).mono ?_
  rintro e w2 ⟨pa, na, ca, rfl, hA, hb⟩
  replace hbw := bstep hbw hb
  go_wp2_with fail
  refine (num_fit (hY.below hbw) hY8).mono ?_
  rintro e w3 ⟨pb, nb, cb, rfl, hB, hb⟩
  replace hbw := bstep hbw hb
  replace hA := hA.below hb
  go_wp2_with fail
  refine (ref_fit (hX.below hbw) hX8).mono ?_
  rintro e w4 ⟨q1, m1, d1, rfl, hP, hb⟩
  replace hbw := bstep hbw hb
  replace hA := hA.below hb
  replace hB := hB.below hb
  go_wp2_with fail
  refine (ref_fit (hY.below hbw) hY8).mono ?_
  rintro e w5 ⟨q2, m2, d2, rfl, hQ, hb⟩
  replace hbw := bstep hbw hb
  replace hA := hA.below hb
  replace hB := hB.below hb
  replace hP := hP.below hb
  clear hb hX hY
  generalize numOf X = x at *
  generalize numOf Y = y at *
  have hbN : blen x ≤ 384 := lim_blen hA.lim
  have hbM : blen y ≤ 384 := lim_blen hB.lim
  have hbx := Boxes2.mk2 w5 (.slice pa na ca) (.slice pb nb cb) 26 26
  go_wp2_with fail
  refine (mul_fit (hA.below hbx.bel) (hB.below hbx.bel) (by omega) (by omega)).mono ?_
  rintro e w6 ⟨v1, rfl, hS, hb⟩
  replace hbx := hbx.later hb
  go_wp2_with fail
  refine (rmul_fit (RBits.of (hP.below hbx.bel)) (RBits.of (hQ.below hbx.bel)) (by omega) (by omega)).mono ?_
  rintro e w7 ⟨v2, rfl, hT, hb⟩
  replace hbx := hbx.later hb
  replace hS := hS.below hb
  go_wp2_with fail
  refine (same_fit' hS hT (by omega)).mono ?_
  rintro e w8 ⟨v3, rfl, rfl, hb⟩
  replace hbx := hbx.later hb
  have c0 := hbx.c0
  have c1 := hbx.c1
  clear hS hT hb
  go_wp2_with fail
  refine (div_fit (hA.below hbx.bel) (hB.below hbx.bel) (by omega) (by omega)).mono ?_
  rintro e w9 ⟨z, rfl, ⟨vq, vr, rfl, hU, hR⟩, hb⟩
  replace hbx := hbx.later hb
  clear hb c0 c1
  obtain ⟨pq, nq, cq, rfl, hU1, hU2⟩ := hU
  have hU : Fit 12 (x / y) (.agg #[.slice pq nq cq]) w9 := ⟨pq, nq, cq, rfl, hU1, hU2⟩
  obtain ⟨pr, nr, cr, rfl, hR1, hR2⟩ := hR
  have hR : Fit 12 (if y = 0 then 0 else x % y) (.agg #[.slice pr nr cr]) w9 := ⟨pr, nr, cr, rfl, hR1, hR2⟩
  clear hU1 hU2 hR1 hR2
  have hbz0 := Boxes2.mk2 w9 (.slice pq nq cq) (.slice pr nr cr) 26 26
  have hbx0 := hbx.later hbz0.bel
  have hz9 := hbx.size
  by_cases hy : y = 0
  · have HY : Hid (y = 0) := Lib.hid hy
    have HQ0 : Hid (x / y = 0) := Lib.hid (by rw [hy, Nat.div_zero])
    rw [if_pos hy] at hR ⊢
    rw [HQ0.out] at hU
    clear hy
    have c1 := hbx0.c1
    go_wp2_with fail
    refine (zero_fitB (hB.below hbx0.bel) (t := true) (decide_eq_true HY.out)).mono ?_
    rintro e w10 ⟨_, rfl, rfl, hb⟩
    replace hbx0 := hbx0.later hb
    replace hbz0 := hbz0.later hb
    have d0 := hbz0.c0
    clear c1 hb
    go_wp2_with fail
    refine (zero_fitB (hU.below hbz0.bel) (t := true) (by decide)).mono ?_
    rintro e w11 ⟨_, rfl, rfl, hb⟩
    replace hbx0 := hbx0.later hb
    replace hbz0 := hbz0.later hb
    have d1 := hbz0.c1
    clear d0 hb
    go_wp2_with fail
    refine (zero_fitB (hR.below hbz0.bel) (t := true) (by decide)).mono ?_
    rintro e w12 ⟨_, rfl, rfl, hb⟩
    go_wp2
    go_ret
    exact ⟨rfl, bstep (bstep hbw hbx0.bel) hb⟩
  · have HY : Hid (y ≠ 0) := Lib.hid hy
    rw [if_neg hy] at hR ⊢
    clear hy
    have c1 := hbx0.c1
    go_wp2_with fail
    refine (zero_fitB (hB.below hbx0.bel) (t := false) (decide_eq_false HY.out)).mono ?_
    rintro e w10 ⟨_, rfl, rfl, hb⟩
    replace hbx0 := hbx0.later hb
    replace hbz0 := hbz0.later hb
    clear c1 hb
    go_wp2_with fail
    refine (rdiv_fit (RBits.of (hP.below hbx0.bel)) (RBits.of (hQ.below hbx0.bel)) (by omega) (by omega) (Nat.pos_of_ne_zero HY.out)).mono ?_
    rintro e w11 ⟨p3, n3, c3, p4, n4, c4, rfl, hV, hW, hb⟩
    replace hbx0 := hbx0.later hb
    replace hbz0 := hbz0.later hb
    have d0 := hbz0.c0
    clear hb
    go_wp2_with fail
    refine (same_fit (hU.below hbz0.bel) hV (by omega)).mono ?_
    rintro e w12 ⟨_, rfl, rfl, hb⟩
    replace hbx0 := hbx0.later hb
    replace hbz0 := hbz0.later hb
    replace hW := hW.below hb
    have d1 := hbz0.c1
    clear hb d0
    go_wp2_with fail
    refine (same_fit (hR.below hbz0.bel) hW (by omega)).mono ?_
    rintro e w13 ⟨_, rfl, rfl, hb⟩
    replace hbx0 := hbx0.later hb
    have d2 := hbx0.c0
    clear hb d1
    go_wp2_with fail
    refine (same_fit (hA.below hbx0.bel) (hP.below hbx0.bel) (by omega)).mono ?_
    rintro e w14 ⟨_, rfl, rfl, hb⟩
    replace hbx0 := hbx0.later hb
    have d3 := hbx0.c1
    clear hb d2
    go_wp2_with fail
    refine (same_fit (hB.below hbx0.bel) (hQ.below hbx0.bel) (by omega)).mono ?_
    rintro e w15 ⟨_, rfl, rfl, hb⟩
    go_wp2
    go_ret
    exact ⟨rfl, bstep (bstep hbw hbx0.bel) hb⟩

end Go.Proofs.Ytoleblefdmdbjaa
