/- The law of bits and of the order. -/
import Derived.Test.YtoleblefdmdbjaaSmall
namespace Go.Proofs.Ytoleblefdmdbjaa
open Go Go.RowKit Go.Proofs.Ytoleblefdmdbjaa.Flow

set_option maxHeartbeats 8000000 in
set_option maxRecDepth 1000000 in
theorem bits_law (w : World) (px : Option Addr) (nx cx : Nat) (X : List Nat) (py : Option Addr) (ny cy : Nat) (Y : List Nat) (i : Int)
    (hX : RowIn w .u8 px nx cx X) (hX8 : Bytes8 X) (hY : RowIn w .u8 py ny cy Y) (hY8 : Bytes8 Y) (hi0 : -9223372036854775808 ≤ i) (hi1 : i ≤ 9223372036854775807) :
    Calls Try.prog 7 #[.slice px nx cx, .slice py ny cy, .int .i64 i] w (Yes w) := by
  go_enter Try.func7, Try.ntmps7
  go_wp2_with fail
  refine (lives_calls _).mono ?_
  rintro e w1 ⟨rfl, hbw⟩
  go_wp2_with fail
  refine (num_fit (hX.below hbw) hX8).mono ?_
  rintro e w2 ⟨pa, na, ca, rfl, hA, hb⟩
  replace hbw := bstep hbw hb
  go_wp2_with fail
  refine (num_fit (hY.below hbw) hY8).mono ?_
  rintro e w3 ⟨pb, nb, cb, rfl, hB, hb⟩
  replace hbw := bstep hbw hb
  replace hA := hA.below hb
  go_wp2_with fail
  refine (ref_fit (hX.below hbw) hX8).mono ?_
  rintro e w4 ⟨q1, m1, d1, rfl, hP, hb⟩
  replace hbw := bstep hbw hb
  replace hA := hA.below hb
  replace hB := hB.below hb
  go_wp2_with fail
  refine (ref_fit (hY.below hbw) hY8).mono ?_
  rintro e w5 ⟨q2, m2, d2, rfl, hQ, hb⟩
  replace hbw := bstep hbw hb
  replace hA := hA.below hb
  replace hB := hB.below hb
  replace hP := hP.below hb
  clear hb hX hY
  generalize numOf X = N at *
  generalize numOf Y = M at *
  obtain ⟨pa', na', ca', he, hA1, hA2⟩ := hA
  cases he
  obtain ⟨pb', nb', cb', he, hB1, hB2⟩ := hB
  cases he
  have l1 := hA1.len_le hA2
  have l2 := hB1.len_le hB2
  have hm1 : m1 ≤ 384 := by rw [bits_len hP]; exact lim_blen hA2
  have hm2 : m2 ≤ 384 := by rw [bits_len hQ]; exact lim_blen hB2
  have hz : na = 0 ↔ m1 = 0 := by
    rw [hA1.zero, bits_len hP]
    constructor
    · intro h; rw [h]; rfl
    · intro h
      rcases Nat.eq_zero_or_pos N with h1 | h1
      · exact h1
      · have := blen_pos h1; omega
  have Hz : Hid (decide (na = 0) = ((m1 : Int) == 0)) := Lib.hid (by rw [Bool.eq_iff_iff, decide_eq_true_eq, hz, beq_iff_eq]; omega)
  clear hz
  have hlim1 := Lib.hid hA2
  have hlim2 := Lib.hid hB2
  clear hA2 hB2
  by_cases h1 : 0 ≤ i ∧ i < m1
  · obtain ⟨g1, g2⟩ := h1
    obtain ⟨j, rfl⟩ := Int.eq_ofNat_of_zero_le g1
    obtain ⟨b, off, rfl, hlt, hc⟩ := hP.pos (by omega)
    obtain ⟨x, hx⟩ : ∃ x, bit N j = x := ⟨_, rfl⟩
    have hcx : w5.cell? ⟨b, off + j, none⟩ = some (.bool x) := hc j x (by rw [bitsOf_get (by rw [← bits_len hP]; omega), hx])
    have HX := Lib.hid hx
    clear hc hx
    have d0 := (Boxes2.mk2 w5 (.slice pa na ca) (.slice pb nb cb) 26 26).bel.cell (p := ⟨b, off + j, none⟩) hlt
    rw [hcx] at d0
    cases x with
    | true =>
      have HBIT : Hid (bitAt N (j : Int) = 1) := Lib.hid (by unfold bitAt; rw [if_pos (by omega), Int.toNat_natCast, HX.out]; rfl)
      have hbx := Boxes2.mk2 w5 (.slice pa na ca) (.slice pb nb cb) 26 26
      have c0 := hbx.c0
      have c1 := hbx.c1
      go_wp2_with fail
      refine (bits_calls _ pa na ca N (hA1.below hbx.bel) (by omega)).mono ?_
      rintro e w6 ⟨rfl, hb⟩
      rw [← bits_len hP]
      replace hbx := hbx.later hb
      clear c0 c1
      have c0 := hbx.c0
      have c1 := hbx.c1
      go_wp2_with fail
      refine (bit_calls _ pa na ca N j (hA1.below hbx.bel) (by omega) hi0 hi1).mono ?_
      rintro e w7 ⟨rfl, hb⟩
      rw [HBIT.out]
      replace hbx := hbx.later hb
      clear c0 c1
      have c0 := hbx.c0
      have c1 := hbx.c1
      go_wp2_with fail
      refine (zero_calls _ pa na ca).mono ?_
      rintro e w8 ⟨rfl, hb⟩
      rw [Hz.out]
      replace hbx := hbx.later hb
      clear c0 c1
      have c0 := hbx.c0
      have c1 := hbx.c1
      go_wp2_with fail
      refine (cmp_calls _ pa pb na ca N nb cb M (hA1.below hbx.bel) (hB1.below hbx.bel) (by omega) (by omega)).mono ?_
      rintro e w9 ⟨rfl, hb⟩
      replace hbx := hbx.later hb
      obtain ⟨K, hK⟩ : ∃ K, cmpI N M = K := ⟨_, rfl⟩
      rw [hK]
      have HK := Lib.hid hK
      clear c0 c1 hK
      go_wp2_with fail
      refine (rcmp_calls _ _ m1 d1 N _ m2 d2 M (hP.below hbx.bel) (hQ.below hbx.bel) (by omega) (by omega)).mono ?_
      rintro e w10 ⟨rfl, hb⟩
      rw [HK.out]
      replace hbx := hbx.later hb
      go_wp2
      go_ret
      exact ⟨rfl, bstep hbw hbx.bel⟩
    | false =>
      have HBIT : Hid (bitAt N (j : Int) = 0) := Lib.hid (by unfold bitAt; rw [if_pos (by omega), Int.toNat_natCast, HX.out]; rfl)
      have hbx := Boxes2.mk2 w5 (.slice pa na ca) (.slice pb nb cb) 26 26
      have c0 := hbx.c0
      have c1 := hbx.c1
      go_wp2_with fail
      refine (bits_calls _ pa na ca N (hA1.below hbx.bel) (by omega)).mono ?_
      rintro e w6 ⟨rfl, hb⟩
      rw [← bits_len hP]
      replace hbx := hbx.later hb
      clear c0 c1
      have c0 := hbx.c0
      have c1 := hbx.c1
      go_wp2_with fail
      refine (bit_calls _ pa na ca N j (hA1.below hbx.bel) (by omega) hi0 hi1).mono ?_
      rintro e w7 ⟨rfl, hb⟩
      rw [HBIT.out]
      replace hbx := hbx.later hb
      clear c0 c1
      have c0 := hbx.c0
      have c1 := hbx.c1
      go_wp2_with fail
      refine (zero_calls _ pa na ca).mono ?_
      rintro e w8 ⟨rfl, hb⟩
      rw [Hz.out]
      replace hbx := hbx.later hb
      clear c0 c1
      have c0 := hbx.c0
      have c1 := hbx.c1
      go_wp2_with fail
      refine (cmp_calls _ pa pb na ca N nb cb M (hA1.below hbx.bel) (hB1.below hbx.bel) (by omega) (by omega)).mono ?_
      rintro e w9 ⟨rfl, hb⟩
      replace hbx := hbx.later hb
      obtain ⟨K, hK⟩ : ∃ K, cmpI N M = K := ⟨_, rfl⟩
      rw [hK]
      have HK := Lib.hid hK
      clear c0 c1 hK
      go_wp2_with fail
      refine (rcmp_calls _ _ m1 d1 N _ m2 d2 M (hP.below hbx.bel) (hQ.below hbx.bel) (by omega) (by omega)).mono ?_
      rintro e w10 ⟨rfl, hb⟩
      rw [HK.out]
      replace hbx := hbx.later hb
      go_wp2
      go_ret
      exact ⟨rfl, bstep hbw hbx.bel⟩
  · have HBIT : Hid (bitAt N i = 0) := Lib.hid (by
      unfold bitAt
      by_cases h0 : 0 ≤ i
      · rw [if_pos h0, bit_ge (by rw [← bits_len hP]; omega)]; rfl
      · rw [if_neg h0])
    by_cases h0 : 0 ≤ i
    · have h2 : ¬ i < (m1 : Int) := by omega
      clear h1
      have hbx := Boxes2.mk2 w5 (.slice pa na ca) (.slice pb nb cb) 26 26
      have c0 := hbx.c0
      have c1 := hbx.c1
      go_wp2_with fail
      refine (bits_calls _ pa na ca N (hA1.below hbx.bel) (by omega)).mono ?_
      rintro e w6 ⟨rfl, hb⟩
      rw [← bits_len hP]
      replace hbx := hbx.later hb
      clear c0 c1
      have c0 := hbx.c0
      have c1 := hbx.c1
      go_wp2_with fail
      refine (bit_calls _ pa na ca N i (hA1.below hbx.bel) (by omega) hi0 hi1).mono ?_
      rintro e w7 ⟨rfl, hb⟩
      rw [HBIT.out]
      replace hbx := hbx.later hb
      clear c0 c1
      have c0 := hbx.c0
      have c1 := hbx.c1
      go_wp2_with fail
      refine (zero_calls _ pa na ca).mono ?_
      rintro e w8 ⟨rfl, hb⟩
      rw [Hz.out]
      replace hbx := hbx.later hb
      clear c0 c1
      have c0 := hbx.c0
      have c1 := hbx.c1
      go_wp2_with fail
      refine (cmp_calls _ pa pb na ca N nb cb M (hA1.below hbx.bel) (hB1.below hbx.bel) (by omega) (by omega)).mono ?_
      rintro e w9 ⟨rfl, hb⟩
      replace hbx := hbx.later hb
      obtain ⟨K, hK⟩ : ∃ K, cmpI N M = K := ⟨_, rfl⟩
      rw [hK]
      have HK := Lib.hid hK
      clear c0 c1 hK
      go_wp2_with fail
      refine (rcmp_calls _ _ m1 d1 N _ m2 d2 M (hP.below hbx.bel) (hQ.below hbx.bel) (by omega) (by omega)).mono ?_
      rintro e w10 ⟨rfl, hb⟩
      rw [HK.out]
      replace hbx := hbx.later hb
      go_wp2
      go_ret
      exact ⟨rfl, bstep hbw hbx.bel⟩
    · clear h1
      have hbx := Boxes2.mk2 w5 (.slice pa na ca) (.slice pb nb cb) 26 26
      have c0 := hbx.c0
      have c1 := hbx.c1
      go_wp2_with fail
      refine (bits_calls _ pa na ca N (hA1.below hbx.bel) (by omega)).mono ?_
      rintro e w6 ⟨rfl, hb⟩
      rw [← bits_len hP]
      replace hbx := hbx.later hb
      clear c0 c1
      have c0 := hbx.c0
      have c1 := hbx.c1
      go_wp2_with fail
      refine (bit_calls _ pa na ca N i (hA1.below hbx.bel) (by omega) hi0 hi1).mono ?_
      rintro e w7 ⟨rfl, hb⟩
      rw [HBIT.out]
      replace hbx := hbx.later hb
      clear c0 c1
      have c0 := hbx.c0
      have c1 := hbx.c1
      go_wp2_with fail
      refine (zero_calls _ pa na ca).mono ?_
      rintro e w8 ⟨rfl, hb⟩
      rw [Hz.out]
      replace hbx := hbx.later hb
      clear c0 c1
      have c0 := hbx.c0
      have c1 := hbx.c1
      go_wp2_with fail
      refine (cmp_calls _ pa pb na ca N nb cb M (hA1.below hbx.bel) (hB1.below hbx.bel) (by omega) (by omega)).mono ?_
      rintro e w9 ⟨rfl, hb⟩
      replace hbx := hbx.later hb
      obtain ⟨K, hK⟩ : ∃ K, cmpI N M = K := ⟨_, rfl⟩
      rw [hK]
      have HK := Lib.hid hK
      clear c0 c1 hK
      go_wp2_with fail
      refine (rcmp_calls _ _ m1 d1 N _ m2 d2 M (hP.below hbx.bel) (hQ.below hbx.bel) (by omega) (by omega)).mono ?_
      rintro e w10 ⟨rfl, hb⟩
      rw [HK.out]
      replace hbx := hbx.later hb
      go_wp2
      go_ret
      exact ⟨rfl, bstep hbw hbx.bel⟩

end Go.Proofs.Ytoleblefdmdbjaa
