/- SignKeys, walked: the public member of a sum of keys is the product of theirs. -/
import Derived.Test.YtdebccghjbfgdaaGreatDoorSgG
namespace Go.Proofs.YtdebccghjbfgdaaGreatDoor
open Go Go.RowKit Go.Proofs.YtdebccghjbfgdaaGreatDoor.Flow
set_option maxRecDepth 100000

theorem public_any {w : World} {b P Q G H e A : Nat} {v : Value} {K : Int} {Y : Nat} (h : GroupAt w b P Q G H) (hv : Fit e A v w) (he : e ≤ 30000) (hA : A < Q) (hK : K = if A = 0 then 1 else 0) (hY : Y = if A = 0 then 0 else G ^ A % P) :
    Calls Tryz.prog 48 #[.pointer (some ⟨b, 0, none⟩), v] w fun en w' => ∃ x, en = .returned (.tuple #[x, .int .i64 K]) ∧ Fit 33 Y x w' ∧ Below w.heap.size w w' := by
  by_cases h0 : A = 0
  · rw [if_pos h0] at hK hY
    subst hK hY
    refine (public_err h hv he (by omega)).mono ?_
    rintro en w' ⟨rfl, hb⟩
    exact ⟨_, rfl, Fit.of (NatAt.nil _) (by decide), hb⟩
  · rw [if_neg h0] at hK hY
    subst hK hY
    exact public_ok h hv he ⟨by omega, hA⟩

set_option maxHeartbeats 4000000 in
set_option maxRecDepth 1000000 in
theorem skeys_calls (w : World) (hr : Tabs w) (A0 : Int) (X : Nat) (hX : U64 X) (Y : Nat) (hY : U64 Y) :
    Calls Tryz.prog 13 #[.int .i64 A0, .int .u64 (X : Nat), .int .u64 (Y : Nat)] w fun e w' => e = .returned (.bool true) ∧ Below w.heap.size w w' := by
  have HLI : Hold _ := ⟨lives11_calls w hr⟩
  have HT : Hold _ := ⟨hr⟩
  have HXl : Hold (X < 18446744073709551616) := ⟨hX⟩
  have HYl : Hold (Y < 18446744073709551616) := ⟨hY⟩
  obtain ⟨i, hi⟩ : ∃ i, ((IntKind.u64.wrap A0) % 3).toNat = i := ⟨_, rfl⟩
  have HI3 : Hold (i < 3) := ⟨by rw [← hi]; exact idx_lt A0⟩
  have HI : Hold _ := ⟨hi⟩
  clear hr hX hY hi
  go_enter Tryz.func13, Tryz.ntmps13
  go_wp2_with fail
  refine HLI.out.mono ?_
  rintro en w1 ⟨rfl, b1⟩
  have B1 : Hold _ := ⟨b1⟩
  clear b1 HLI
  go_wp2_with fail
  refine (group10_calls w1 A0 (HT.out.below B1.out HT.out.size)).mono ?_
  rintro en w2 ⟨b, rfl, hg2, b2⟩
  rw [HI.out] at hg2
  obtain ⟨P, hP⟩ : ∃ P, gP i = P := ⟨_, rfl⟩
  obtain ⟨Q, hQ⟩ : ∃ P, gQ i = P := ⟨_, rfl⟩
  obtain ⟨G, hG⟩ : ∃ P, gG i = P := ⟨_, rfl⟩
  obtain ⟨H, hH⟩ : ∃ P, gH i = P := ⟨_, rfl⟩
  have HP2 : Hold (2 ≤ P ∧ 2 ≤ Q ∧ G ^ Q % P = 1) := ⟨by rw [← hP, ← hQ, ← hG]; exact ⟨gP_pos i HI3.out, gQ_pos i HI3.out, gG_member i HI3.out⟩⟩
  rw [hP, hQ, hG, hH] at hg2
  have HG2 : Hold _ := ⟨hg2⟩
  have B2 : Hold _ := ⟨bstep B1.out b2⟩
  clear hg2 b2 hP hQ hG hH B1
  go_wp2_with fail
  refine (gfield_fit HG2.out).mono ?_
  rintro en w3 ⟨r, rfl, hr3, b3⟩
  have HR3 : Hold _ := ⟨hr3⟩
  have HG3 : Hold _ := ⟨HG2.out.below b3⟩
  have B3 : Hold _ := ⟨bstep B2.out b3⟩
  clear hr3 b3 HG2 B2
  obtain ⟨A, hA⟩ : ∃ A, X % Q = A := ⟨_, rfl⟩
  obtain ⟨B, hB⟩ : ∃ A, Y % Q = A := ⟨_, rfl⟩
  obtain ⟨C, hC⟩ : ∃ Z, (A + B) % Q = Z := ⟨_, rfl⟩
  have HEA : Hold _ := ⟨hA⟩
  have HEB : Hold _ := ⟨hB⟩
  have HEC : Hold _ := ⟨hC⟩
  have HAl : Hold (A < Q) := ⟨by rw [← hA]; exact Nat.mod_lt _ (by have := HP2.out; omega)⟩
  have HBl : Hold (B < Q) := ⟨by rw [← hB]; exact Nat.mod_lt _ (by have := HP2.out; omega)⟩
  have HCl : Hold (C < Q) := ⟨by rw [← hC]; exact Nat.mod_lt _ (by have := HP2.out; omega)⟩
  clear hA hB hC
  go_wp2_with fail
  refine (newnat_fit (n := X) w3 HXl.out).mono ?_
  rintro en w4 ⟨x4, rfl, h4, b4⟩
  have H4 : Hold _ := ⟨h4⟩
  have HR4 : Hold _ := ⟨HR3.out.below b4⟩
  have HG4 : Hold _ := ⟨HG3.out.below b4⟩
  have B4 : Hold _ := ⟨bstep B3.out b4⟩
  clear h4 b4 HR3 HG3 B3
  go_wp2_with fail
  refine (rof_fit HR4.out H4.out (by decide)).mono ?_
  rintro en w5 ⟨_, rfl, ⟨pa, na, ca, rfl, h5, l5⟩, b5⟩
  rw [HEA.out] at h5 l5
  have H5 : Hold _ := ⟨Fit.of h5 l5⟩
  have HR5 : Hold _ := ⟨HR4.out.below b5⟩
  have HG5 : Hold _ := ⟨HG4.out.below b5⟩
  have B5 : Hold _ := ⟨bstep B4.out b5⟩
  clear h5 l5 b5 HR4 HG4 B4 H4
  go_wp2_with fail
  refine (newnat_fit (n := Y) w5 HYl.out).mono ?_
  rintro en w6 ⟨x6, rfl, h6, b6⟩
  have H6 : Hold _ := ⟨h6⟩
  have H56 : Hold _ := ⟨H5.out.below b6⟩
  have HR6 : Hold _ := ⟨HR5.out.below b6⟩
  have HG6 : Hold _ := ⟨HG5.out.below b6⟩
  have B6 : Hold _ := ⟨bstep B5.out b6⟩
  clear h6 b6 HR5 HG5 B5 H5
  go_wp2_with fail
  refine (rof_fit HR6.out H6.out (by decide)).mono ?_
  rintro en w7 ⟨_, rfl, ⟨pb, nb, cb, rfl, h7, l7⟩, b7⟩
  rw [HEB.out] at h7 l7
  have hm := NB2.mk2 w7 (.slice pa na ca) (.slice pb nb cb)
  obtain ⟨b9, hb9⟩ : ∃ b, w7.heap.size = b := ⟨_, rfl⟩
  obtain ⟨w8, hw8⟩ : ∃ W, (w7.alloc (.cells #[.slice pa na ca] 36)).alloc (.cells #[.slice pb nb cb] 36) = W := ⟨_, rfl⟩
  have hz8 : (w7.alloc (.cells #[.slice pa na ca] 36)).heap.size = b9 + 1 := by rw [← hb9]; simp
  rw [hw8] at hm
  have hmA := hm.b0
  have hmB := hm.b1
  have b8 := bstep b7 hm.bel
  rw [hb9] at hmA hmB
  have HXA8 : Hold _ := ⟨hmA⟩
  have HXB8 : Hold _ := ⟨hmB⟩
  have HFA8 : Hold _ := ⟨H56.out.below b8⟩
  have HFB8 : Hold _ := ⟨(Fit.of h7 l7).below hm.bel⟩
  have HR8 : Hold _ := ⟨HR6.out.below b8⟩
  have HG8 : Hold _ := ⟨HG6.out.below b8⟩
  have B8 : Hold _ := ⟨bstep B6.out b8⟩
  have cA := hmA.cell
  have cB := hmB.cell
  clear h7 l7 b7 b8 hm hmA hmB HR6 HG6 B6 H56 H6
  go_wp2_with fail
  clear hw8 hz8 hb9
  refine (rngadd_fit HR8.out HFA8.out HFB8.out (by decide) (by decide)).mono ?_
  rintro en w9 ⟨_, rfl, ⟨pc, nc, cc, rfl, h9, l9⟩, b9'⟩
  rw [HEC.out] at h9 l9
  have hb10 : Below w9.heap.size w9 (w9.alloc (.cells #[.slice pc nc cc] 36)) := (Below.refl _ _).alloc (Nat.le_refl _) _
  have hX10 := NatBox.made w9 (.slice pc nc cc)
  obtain ⟨w10, hw10⟩ : ∃ W, w9.alloc (.cells #[.slice pc nc cc] 36) = W := ⟨_, rfl⟩
  rw [hw10] at hb10 hX10
  obtain ⟨b11, hb11⟩ : ∃ b, w9.heap.size = b := ⟨_, rfl⟩
  rw [hb11] at hX10
  have b10 := bstep b9' hb10
  have HXA : Hold _ := ⟨HXA8.out.below b10 HXA8.out.lt⟩
  have HXB : Hold _ := ⟨HXB8.out.below b10 HXB8.out.lt⟩
  have HXC : Hold _ := ⟨hX10⟩
  have HFA : Hold _ := ⟨HFA8.out.below b10⟩
  have HFB : Hold _ := ⟨HFB8.out.below b10⟩
  have HFC : Hold _ := ⟨(Fit.of h9 l9).below hb10⟩
  have HG : Hold _ := ⟨HG8.out.below b10⟩
  have HB : Hold _ := ⟨bstep B8.out b10⟩
  clear h9 l9 b9' hb10 hX10 b10 HXA8 HXB8 HFA8 HFB8 HR8 HG8 B8 cA cB
  have cA := HXA.out.cell
  have cB := HXB.out.cell
  have cC := HXC.out.cell
  obtain ⟨KA, hKA⟩ : ∃ K : Int, K = if A = 0 then 1 else 0 := ⟨_, rfl⟩
  obtain ⟨KB, hKB⟩ : ∃ K : Int, K = if B = 0 then 1 else 0 := ⟨_, rfl⟩
  obtain ⟨KC, hKC⟩ : ∃ K : Int, K = if C = 0 then 1 else 0 := ⟨_, rfl⟩
  obtain ⟨YA, hYA⟩ : ∃ K, K = if A = 0 then 0 else G ^ A % P := ⟨_, rfl⟩
  obtain ⟨YB, hYB⟩ : ∃ K, K = if B = 0 then 0 else G ^ B % P := ⟨_, rfl⟩
  obtain ⟨YC, hYC⟩ : ∃ K, K = if C = 0 then 0 else G ^ C % P := ⟨_, rfl⟩
  have HKA : Hold _ := ⟨hKA⟩
  have HKB : Hold _ := ⟨hKB⟩
  have HKC : Hold _ := ⟨hKC⟩
  have HYA : Hold _ := ⟨hYA⟩
  have HYB : Hold _ := ⟨hYB⟩
  have HYC : Hold _ := ⟨hYC⟩
  clear hKA hKB hKC hYA hYB hYC
  go_wp2_with fail
  clear hw10 hb11
  refine (public_any HG.out HFA.out (by decide) HAl.out HKA.out HYA.out).mono ?_
  rintro en v1 ⟨_, rfl, ⟨px, nx, cx, rfl, h, l⟩, hb⟩
  have hbn : Below v1.heap.size v1 (v1.alloc (.cells #[.slice px nx cx] 36)) := (Below.refl _ _).alloc (Nat.le_refl _) _
  have hXn := NatBox.made v1 (.slice px nx cx)
  obtain ⟨u1, hu1⟩ : ∃ W, v1.alloc (.cells #[.slice px nx cx] 36) = W := ⟨_, rfl⟩
  rw [hu1] at hbn hXn
  obtain ⟨d1, hd1⟩ : ∃ b, v1.heap.size = b := ⟨_, rfl⟩
  rw [hd1] at hXn
  have hbn2 := bstep hb hbn
  have HXA_ := HXA.out.below hbn2 HXA.out.lt
  have HFA_ := HFA.out.below hbn2
  have HXB_ := HXB.out.below hbn2 HXB.out.lt
  have HFB_ := HFB.out.below hbn2
  have HXC_ := HXC.out.below hbn2 HXC.out.lt
  have HFC_ := HFC.out.below hbn2
  have HG_ := HG.out.below hbn2
  have HB_ := bstep HB.out hbn2
  have HXP : Hold _ := ⟨hXn⟩
  have HFP : Hold _ := ⟨(Fit.of h l).below hbn⟩
  clear h l hb hbn hbn2 hXn HG HB HXA HFA HXB HFB HXC HFC cA cB cC
  have HXA : Hold _ := ⟨HXA_⟩
  have HFA : Hold _ := ⟨HFA_⟩
  have HXB : Hold _ := ⟨HXB_⟩
  have HFB : Hold _ := ⟨HFB_⟩
  have HXC : Hold _ := ⟨HXC_⟩
  have HFC : Hold _ := ⟨HFC_⟩
  have HG : Hold _ := ⟨HG_⟩
  have HB : Hold _ := ⟨HB_⟩
  clear HG_ HB_ HXA_ HFA_ HXB_ HFB_ HXC_ HFC_
  have cA := HXA.out.cell
  have cB := HXB.out.cell
  have cC := HXC.out.cell
  go_wp2_with fail
  clear hu1 hd1
  refine (public_any HG.out HFB.out (by decide) HBl.out HKB.out HYB.out).mono ?_
  rintro en v2 ⟨_, rfl, ⟨py, ny, cy, rfl, h, l⟩, hb⟩
  have hbn : Below v2.heap.size v2 (v2.alloc (.cells #[.slice py ny cy] 36)) := (Below.refl _ _).alloc (Nat.le_refl _) _
  have hXn := NatBox.made v2 (.slice py ny cy)
  obtain ⟨u2, hu2⟩ : ∃ W, v2.alloc (.cells #[.slice py ny cy] 36) = W := ⟨_, rfl⟩
  rw [hu2] at hbn hXn
  obtain ⟨d2, hd2⟩ : ∃ b, v2.heap.size = b := ⟨_, rfl⟩
  rw [hd2] at hXn
  have hbn2 := bstep hb hbn
  have HXA_ := HXA.out.below hbn2 HXA.out.lt
  have HFA_ := HFA.out.below hbn2
  have HXB_ := HXB.out.below hbn2 HXB.out.lt
  have HFB_ := HFB.out.below hbn2
  have HXC_ := HXC.out.below hbn2 HXC.out.lt
  have HFC_ := HFC.out.below hbn2
  have HXP_ := HXP.out.below hbn2 HXP.out.lt
  have HFP_ := HFP.out.below hbn2
  have HG_ := HG.out.below hbn2
  have HB_ := bstep HB.out hbn2
  have HXQ : Hold _ := ⟨hXn⟩
  have HFQ : Hold _ := ⟨(Fit.of h l).below hbn⟩
  clear h l hb hbn hbn2 hXn HG HB HXA HFA HXB HFB HXC HFC HXP HFP cA cB cC
  have HXA : Hold _ := ⟨HXA_⟩
  have HFA : Hold _ := ⟨HFA_⟩
  have HXB : Hold _ := ⟨HXB_⟩
  have HFB : Hold _ := ⟨HFB_⟩
  have HXC : Hold _ := ⟨HXC_⟩
  have HFC : Hold _ := ⟨HFC_⟩
  have HXP : Hold _ := ⟨HXP_⟩
  have HFP : Hold _ := ⟨HFP_⟩
  have HG : Hold _ := ⟨HG_⟩
  have HB : Hold _ := ⟨HB_⟩
  clear HG_ HB_ HXA_ HFA_ HXB_ HFB_ HXC_ HFC_ HXP_ HFP_
  have cA := HXA.out.cell
  have cB := HXB.out.cell
  have cC := HXC.out.cell
  go_wp2_with fail
  clear hu2 hd2
  refine (public_any HG.out HFC.out (by decide) HCl.out HKC.out HYC.out).mono ?_
  rintro en v3 ⟨_, rfl, ⟨pr, nr, cr, rfl, h, l⟩, hb⟩
  have hbn : Below v3.heap.size v3 (v3.alloc (.cells #[.slice pr nr cr] 36)) := (Below.refl _ _).alloc (Nat.le_refl _) _
  have hXn := NatBox.made v3 (.slice pr nr cr)
  obtain ⟨u3, hu3⟩ : ∃ W, v3.alloc (.cells #[.slice pr nr cr] 36) = W := ⟨_, rfl⟩
  rw [hu3] at hbn hXn
  obtain ⟨d3, hd3⟩ : ∃ b, v3.heap.size = b := ⟨_, rfl⟩
  rw [hd3] at hXn
  have hbn2 := bstep hb hbn
  have HXA_ := HXA.out.below hbn2 HXA.out.lt
  have HFA_ := HFA.out.below hbn2
  have HXB_ := HXB.out.below hbn2 HXB.out.lt
  have HFB_ := HFB.out.below hbn2
  have HXC_ := HXC.out.below hbn2 HXC.out.lt
  have HFC_ := HFC.out.below hbn2
  have HXP_ := HXP.out.below hbn2 HXP.out.lt
  have HFP_ := HFP.out.below hbn2
  have HXQ_ := HXQ.out.below hbn2 HXQ.out.lt
  have HFQ_ := HFQ.out.below hbn2
  have HG_ := HG.out.below hbn2
  have HB_ := bstep HB.out hbn2
  have HXR : Hold _ := ⟨hXn⟩
  have HFR : Hold _ := ⟨(Fit.of h l).below hbn⟩
  clear h l hb hbn hbn2 hXn HG HB HXA HFA HXB HFB HXC HFC HXP HFP HXQ HFQ cA cB cC
  have HXA : Hold _ := ⟨HXA_⟩
  have HFA : Hold _ := ⟨HFA_⟩
  have HXB : Hold _ := ⟨HXB_⟩
  have HFB : Hold _ := ⟨HFB_⟩
  have HXC : Hold _ := ⟨HXC_⟩
  have HFC : Hold _ := ⟨HFC_⟩
  have HXP : Hold _ := ⟨HXP_⟩
  have HFP : Hold _ := ⟨HFP_⟩
  have HXQ : Hold _ := ⟨HXQ_⟩
  have HFQ : Hold _ := ⟨HFQ_⟩
  have HG : Hold _ := ⟨HG_⟩
  have HB : Hold _ := ⟨HB_⟩
  clear HG_ HB_ HXA_ HFA_ HXB_ HFB_ HXC_ HFC_ HXP_ HFP_ HXQ_ HFQ_
  have cA := HXA.out.cell
  have cB := HXB.out.cell
  have cC := HXC.out.cell
  by_cases hzA : A = 0
  · obtain rfl : KA = 1 := by rw [HKA.out, if_pos hzA]
    have HZA : Hold _ := ⟨hzA⟩
    clear hzA HKA
    by_cases hzB : B = 0
    · obtain rfl : KB = 1 := by rw [HKB.out, if_pos hzB]
      have HZB : Hold _ := ⟨hzB⟩
      clear hzB HKB
      by_cases hzC : C = 0
      · obtain rfl : KC = 1 := by rw [HKC.out, if_pos hzC]
        have HZC : Hold _ := ⟨hzC⟩
        clear hzC HKC
        go_wp2_with fail
        refine (zero_fitB HFA.out (decide_eq_true HZA.out)).mono ?_
        rintro en wz0 ⟨_, rfl, rfl, hb⟩
        have HXA_ := HXA.out.below hb HXA.out.lt
        have HFA_ := HFA.out.below hb
        have HXB_ := HXB.out.below hb HXB.out.lt
        have HFB_ := HFB.out.below hb
        have HXC_ := HXC.out.below hb HXC.out.lt
        have HFC_ := HFC.out.below hb
        have HB_ := bstep HB.out hb
        clear hb HB HXA HFA HXB HFB HXC HFC cA cB cC
        have cA := HXA_.cell
        have HXA : Hold _ := ⟨HXA_⟩
        have HFA : Hold _ := ⟨HFA_⟩
        have cB := HXB_.cell
        have HXB : Hold _ := ⟨HXB_⟩
        have HFB : Hold _ := ⟨HFB_⟩
        have cC := HXC_.cell
        have HXC : Hold _ := ⟨HXC_⟩
        have HFC : Hold _ := ⟨HFC_⟩
        have HB : Hold _ := ⟨HB_⟩
        clear HB_ HXA_ HFA_ HXB_ HFB_ HXC_ HFC_
        go_wp2_with fail
        refine (zero_fitB HFA.out (decide_eq_true HZA.out)).mono ?_
        rintro en wz1 ⟨_, rfl, rfl, hb⟩
        have HXA_ := HXA.out.below hb HXA.out.lt
        have HFA_ := HFA.out.below hb
        have HXB_ := HXB.out.below hb HXB.out.lt
        have HFB_ := HFB.out.below hb
        have HXC_ := HXC.out.below hb HXC.out.lt
        have HFC_ := HFC.out.below hb
        have HB_ := bstep HB.out hb
        clear hb HB HXA HFA HXB HFB HXC HFC cA cB cC
        have cA := HXA_.cell
        have HXA : Hold _ := ⟨HXA_⟩
        have HFA : Hold _ := ⟨HFA_⟩
        have cB := HXB_.cell
        have HXB : Hold _ := ⟨HXB_⟩
        have HFB : Hold _ := ⟨HFB_⟩
        have cC := HXC_.cell
        have HXC : Hold _ := ⟨HXC_⟩
        have HFC : Hold _ := ⟨HFC_⟩
        have HB : Hold _ := ⟨HB_⟩
        clear HB_ HXA_ HFA_ HXB_ HFB_ HXC_ HFC_
        go_wp2_with fail
        refine (zero_fitB HFB.out (decide_eq_true HZB.out)).mono ?_
        rintro en wz2 ⟨_, rfl, rfl, hb⟩
        have HXA_ := HXA.out.below hb HXA.out.lt
        have HFA_ := HFA.out.below hb
        have HXB_ := HXB.out.below hb HXB.out.lt
        have HFB_ := HFB.out.below hb
        have HXC_ := HXC.out.below hb HXC.out.lt
        have HFC_ := HFC.out.below hb
        have HB_ := bstep HB.out hb
        clear hb HB HXA HFA HXB HFB HXC HFC cA cB cC
        have cA := HXA_.cell
        have HXA : Hold _ := ⟨HXA_⟩
        have HFA : Hold _ := ⟨HFA_⟩
        have cB := HXB_.cell
        have HXB : Hold _ := ⟨HXB_⟩
        have HFB : Hold _ := ⟨HFB_⟩
        have cC := HXC_.cell
        have HXC : Hold _ := ⟨HXC_⟩
        have HFC : Hold _ := ⟨HFC_⟩
        have HB : Hold _ := ⟨HB_⟩
        clear HB_ HXA_ HFA_ HXB_ HFB_ HXC_ HFC_
        go_wp2_with fail
        refine (zero_fitB HFC.out (decide_eq_true HZC.out)).mono ?_
        rintro en wz3 ⟨_, rfl, rfl, hb⟩
        have HXA_ := HXA.out.below hb HXA.out.lt
        have HFA_ := HFA.out.below hb
        have HXB_ := HXB.out.below hb HXB.out.lt
        have HFB_ := HFB.out.below hb
        have HXC_ := HXC.out.below hb HXC.out.lt
        have HFC_ := HFC.out.below hb
        have HB_ := bstep HB.out hb
        clear hb HB HXA HFA HXB HFB HXC HFC cA cB cC
        have cA := HXA_.cell
        have HXA : Hold _ := ⟨HXA_⟩
        have HFA : Hold _ := ⟨HFA_⟩
        have cB := HXB_.cell
        have HXB : Hold _ := ⟨HXB_⟩
        have HFB : Hold _ := ⟨HFB_⟩
        have cC := HXC_.cell
        have HXC : Hold _ := ⟨HXC_⟩
        have HFC : Hold _ := ⟨HFC_⟩
        have HB : Hold _ := ⟨HB_⟩
        clear HB_ HXA_ HFA_ HXB_ HFB_ HXC_ HFC_
        go_wp2
        go_ret
        exact ⟨rfl, HB.out⟩
      · obtain rfl : KC = 0 := by rw [HKC.out, if_neg hzC]
        have HZC : Hold _ := ⟨hzC⟩
        clear hzC HKC
        go_wp2_with fail
        refine (zero_fitB HFA.out (decide_eq_true HZA.out)).mono ?_
        rintro en wz0 ⟨_, rfl, rfl, hb⟩
        have HXA_ := HXA.out.below hb HXA.out.lt
        have HFA_ := HFA.out.below hb
        have HXB_ := HXB.out.below hb HXB.out.lt
        have HFB_ := HFB.out.below hb
        have HXC_ := HXC.out.below hb HXC.out.lt
        have HFC_ := HFC.out.below hb
        have HB_ := bstep HB.out hb
        clear hb HB HXA HFA HXB HFB HXC HFC cA cB cC
        have cA := HXA_.cell
        have HXA : Hold _ := ⟨HXA_⟩
        have HFA : Hold _ := ⟨HFA_⟩
        have cB := HXB_.cell
        have HXB : Hold _ := ⟨HXB_⟩
        have HFB : Hold _ := ⟨HFB_⟩
        have cC := HXC_.cell
        have HXC : Hold _ := ⟨HXC_⟩
        have HFC : Hold _ := ⟨HFC_⟩
        have HB : Hold _ := ⟨HB_⟩
        clear HB_ HXA_ HFA_ HXB_ HFB_ HXC_ HFC_
        go_wp2_with fail
        refine (zero_fitB HFA.out (decide_eq_true HZA.out)).mono ?_
        rintro en wz1 ⟨_, rfl, rfl, hb⟩
        have HXA_ := HXA.out.below hb HXA.out.lt
        have HFA_ := HFA.out.below hb
        have HXB_ := HXB.out.below hb HXB.out.lt
        have HFB_ := HFB.out.below hb
        have HXC_ := HXC.out.below hb HXC.out.lt
        have HFC_ := HFC.out.below hb
        have HB_ := bstep HB.out hb
        clear hb HB HXA HFA HXB HFB HXC HFC cA cB cC
        have cA := HXA_.cell
        have HXA : Hold _ := ⟨HXA_⟩
        have HFA : Hold _ := ⟨HFA_⟩
        have cB := HXB_.cell
        have HXB : Hold _ := ⟨HXB_⟩
        have HFB : Hold _ := ⟨HFB_⟩
        have cC := HXC_.cell
        have HXC : Hold _ := ⟨HXC_⟩
        have HFC : Hold _ := ⟨HFC_⟩
        have HB : Hold _ := ⟨HB_⟩
        clear HB_ HXA_ HFA_ HXB_ HFB_ HXC_ HFC_
        go_wp2_with fail
        refine (zero_fitB HFB.out (decide_eq_true HZB.out)).mono ?_
        rintro en wz2 ⟨_, rfl, rfl, hb⟩
        have HXA_ := HXA.out.below hb HXA.out.lt
        have HFA_ := HFA.out.below hb
        have HXB_ := HXB.out.below hb HXB.out.lt
        have HFB_ := HFB.out.below hb
        have HXC_ := HXC.out.below hb HXC.out.lt
        have HFC_ := HFC.out.below hb
        have HB_ := bstep HB.out hb
        clear hb HB HXA HFA HXB HFB HXC HFC cA cB cC
        have cA := HXA_.cell
        have HXA : Hold _ := ⟨HXA_⟩
        have HFA : Hold _ := ⟨HFA_⟩
        have cB := HXB_.cell
        have HXB : Hold _ := ⟨HXB_⟩
        have HFB : Hold _ := ⟨HFB_⟩
        have cC := HXC_.cell
        have HXC : Hold _ := ⟨HXC_⟩
        have HFC : Hold _ := ⟨HFC_⟩
        have HB : Hold _ := ⟨HB_⟩
        clear HB_ HXA_ HFA_ HXB_ HFB_ HXC_ HFC_
        go_wp2_with fail
        refine (zero_fitB HFC.out (decide_eq_false HZC.out)).mono ?_
        rintro en wz3 ⟨_, rfl, rfl, hb⟩
        have HXA_ := HXA.out.below hb HXA.out.lt
        have HFA_ := HFA.out.below hb
        have HXB_ := HXB.out.below hb HXB.out.lt
        have HFB_ := HFB.out.below hb
        have HXC_ := HXC.out.below hb HXC.out.lt
        have HFC_ := HFC.out.below hb
        have HB_ := bstep HB.out hb
        clear hb HB HXA HFA HXB HFB HXC HFC cA cB cC
        have cA := HXA_.cell
        have HXA : Hold _ := ⟨HXA_⟩
        have HFA : Hold _ := ⟨HFA_⟩
        have cB := HXB_.cell
        have HXB : Hold _ := ⟨HXB_⟩
        have HFB : Hold _ := ⟨HFB_⟩
        have cC := HXC_.cell
        have HXC : Hold _ := ⟨HXC_⟩
        have HFC : Hold _ := ⟨HFC_⟩
        have HB : Hold _ := ⟨HB_⟩
        clear HB_ HXA_ HFA_ HXB_ HFB_ HXC_ HFC_
        go_wp2
        go_ret
        exact ⟨rfl, HB.out⟩
    · obtain rfl : KB = 0 := by rw [HKB.out, if_neg hzB]
      have HZB : Hold _ := ⟨hzB⟩
      clear hzB HKB
      by_cases hzC : C = 0
      · obtain rfl : KC = 1 := by rw [HKC.out, if_pos hzC]
        have HZC : Hold _ := ⟨hzC⟩
        clear hzC HKC
        go_wp2_with fail
        refine (zero_fitB HFA.out (decide_eq_true HZA.out)).mono ?_
        rintro en wz0 ⟨_, rfl, rfl, hb⟩
        have HXA_ := HXA.out.below hb HXA.out.lt
        have HFA_ := HFA.out.below hb
        have HXB_ := HXB.out.below hb HXB.out.lt
        have HFB_ := HFB.out.below hb
        have HXC_ := HXC.out.below hb HXC.out.lt
        have HFC_ := HFC.out.below hb
        have HB_ := bstep HB.out hb
        clear hb HB HXA HFA HXB HFB HXC HFC cA cB cC
        have cA := HXA_.cell
        have HXA : Hold _ := ⟨HXA_⟩
        have HFA : Hold _ := ⟨HFA_⟩
        have cB := HXB_.cell
        have HXB : Hold _ := ⟨HXB_⟩
        have HFB : Hold _ := ⟨HFB_⟩
        have cC := HXC_.cell
        have HXC : Hold _ := ⟨HXC_⟩
        have HFC : Hold _ := ⟨HFC_⟩
        have HB : Hold _ := ⟨HB_⟩
        clear HB_ HXA_ HFA_ HXB_ HFB_ HXC_ HFC_
        go_wp2_with fail
        refine (zero_fitB HFA.out (decide_eq_true HZA.out)).mono ?_
        rintro en wz1 ⟨_, rfl, rfl, hb⟩
        have HXA_ := HXA.out.below hb HXA.out.lt
        have HFA_ := HFA.out.below hb
        have HXB_ := HXB.out.below hb HXB.out.lt
        have HFB_ := HFB.out.below hb
        have HXC_ := HXC.out.below hb HXC.out.lt
        have HFC_ := HFC.out.below hb
        have HB_ := bstep HB.out hb
        clear hb HB HXA HFA HXB HFB HXC HFC cA cB cC
        have cA := HXA_.cell
        have HXA : Hold _ := ⟨HXA_⟩
        have HFA : Hold _ := ⟨HFA_⟩
        have cB := HXB_.cell
        have HXB : Hold _ := ⟨HXB_⟩
        have HFB : Hold _ := ⟨HFB_⟩
        have cC := HXC_.cell
        have HXC : Hold _ := ⟨HXC_⟩
        have HFC : Hold _ := ⟨HFC_⟩
        have HB : Hold _ := ⟨HB_⟩
        clear HB_ HXA_ HFA_ HXB_ HFB_ HXC_ HFC_
        go_wp2_with fail
        refine (zero_fitB HFB.out (decide_eq_false HZB.out)).mono ?_
        rintro en wz2 ⟨_, rfl, rfl, hb⟩
        have HXA_ := HXA.out.below hb HXA.out.lt
        have HFA_ := HFA.out.below hb
        have HXB_ := HXB.out.below hb HXB.out.lt
        have HFB_ := HFB.out.below hb
        have HXC_ := HXC.out.below hb HXC.out.lt
        have HFC_ := HFC.out.below hb
        have HB_ := bstep HB.out hb
        clear hb HB HXA HFA HXB HFB HXC HFC cA cB cC
        have cA := HXA_.cell
        have HXA : Hold _ := ⟨HXA_⟩
        have HFA : Hold _ := ⟨HFA_⟩
        have cB := HXB_.cell
        have HXB : Hold _ := ⟨HXB_⟩
        have HFB : Hold _ := ⟨HFB_⟩
        have cC := HXC_.cell
        have HXC : Hold _ := ⟨HXC_⟩
        have HFC : Hold _ := ⟨HFC_⟩
        have HB : Hold _ := ⟨HB_⟩
        clear HB_ HXA_ HFA_ HXB_ HFB_ HXC_ HFC_
        go_wp2_with fail
        refine (zero_fitB HFC.out (decide_eq_true HZC.out)).mono ?_
        rintro en wz3 ⟨_, rfl, rfl, hb⟩
        have HXA_ := HXA.out.below hb HXA.out.lt
        have HFA_ := HFA.out.below hb
        have HXB_ := HXB.out.below hb HXB.out.lt
        have HFB_ := HFB.out.below hb
        have HXC_ := HXC.out.below hb HXC.out.lt
        have HFC_ := HFC.out.below hb
        have HB_ := bstep HB.out hb
        clear hb HB HXA HFA HXB HFB HXC HFC cA cB cC
        have cA := HXA_.cell
        have HXA : Hold _ := ⟨HXA_⟩
        have HFA : Hold _ := ⟨HFA_⟩
        have cB := HXB_.cell
        have HXB : Hold _ := ⟨HXB_⟩
        have HFB : Hold _ := ⟨HFB_⟩
        have cC := HXC_.cell
        have HXC : Hold _ := ⟨HXC_⟩
        have HFC : Hold _ := ⟨HFC_⟩
        have HB : Hold _ := ⟨HB_⟩
        clear HB_ HXA_ HFA_ HXB_ HFB_ HXC_ HFC_
        go_wp2
        go_ret
        exact ⟨rfl, HB.out⟩
      · obtain rfl : KC = 0 := by rw [HKC.out, if_neg hzC]
        have HZC : Hold _ := ⟨hzC⟩
        clear hzC HKC
        go_wp2_with fail
        refine (zero_fitB HFA.out (decide_eq_true HZA.out)).mono ?_
        rintro en wz0 ⟨_, rfl, rfl, hb⟩
        have HXA_ := HXA.out.below hb HXA.out.lt
        have HFA_ := HFA.out.below hb
        have HXB_ := HXB.out.below hb HXB.out.lt
        have HFB_ := HFB.out.below hb
        have HXC_ := HXC.out.below hb HXC.out.lt
        have HFC_ := HFC.out.below hb
        have HB_ := bstep HB.out hb
        clear hb HB HXA HFA HXB HFB HXC HFC cA cB cC
        have cA := HXA_.cell
        have HXA : Hold _ := ⟨HXA_⟩
        have HFA : Hold _ := ⟨HFA_⟩
        have cB := HXB_.cell
        have HXB : Hold _ := ⟨HXB_⟩
        have HFB : Hold _ := ⟨HFB_⟩
        have cC := HXC_.cell
        have HXC : Hold _ := ⟨HXC_⟩
        have HFC : Hold _ := ⟨HFC_⟩
        have HB : Hold _ := ⟨HB_⟩
        clear HB_ HXA_ HFA_ HXB_ HFB_ HXC_ HFC_
        go_wp2_with fail
        refine (zero_fitB HFA.out (decide_eq_true HZA.out)).mono ?_
        rintro en wz1 ⟨_, rfl, rfl, hb⟩
        have HXA_ := HXA.out.below hb HXA.out.lt
        have HFA_ := HFA.out.below hb
        have HXB_ := HXB.out.below hb HXB.out.lt
        have HFB_ := HFB.out.below hb
        have HXC_ := HXC.out.below hb HXC.out.lt
        have HFC_ := HFC.out.below hb
        have HB_ := bstep HB.out hb
        clear hb HB HXA HFA HXB HFB HXC HFC cA cB cC
        have cA := HXA_.cell
        have HXA : Hold _ := ⟨HXA_⟩
        have HFA : Hold _ := ⟨HFA_⟩
        have cB := HXB_.cell
        have HXB : Hold _ := ⟨HXB_⟩
        have HFB : Hold _ := ⟨HFB_⟩
        have cC := HXC_.cell
        have HXC : Hold _ := ⟨HXC_⟩
        have HFC : Hold _ := ⟨HFC_⟩
        have HB : Hold _ := ⟨HB_⟩
        clear HB_ HXA_ HFA_ HXB_ HFB_ HXC_ HFC_
        go_wp2_with fail
        refine (zero_fitB HFB.out (decide_eq_false HZB.out)).mono ?_
        rintro en wz2 ⟨_, rfl, rfl, hb⟩
        have HXA_ := HXA.out.below hb HXA.out.lt
        have HFA_ := HFA.out.below hb
        have HXB_ := HXB.out.below hb HXB.out.lt
        have HFB_ := HFB.out.below hb
        have HXC_ := HXC.out.below hb HXC.out.lt
        have HFC_ := HFC.out.below hb
        have HB_ := bstep HB.out hb
        clear hb HB HXA HFA HXB HFB HXC HFC cA cB cC
        have cA := HXA_.cell
        have HXA : Hold _ := ⟨HXA_⟩
        have HFA : Hold _ := ⟨HFA_⟩
        have cB := HXB_.cell
        have HXB : Hold _ := ⟨HXB_⟩
        have HFB : Hold _ := ⟨HFB_⟩
        have cC := HXC_.cell
        have HXC : Hold _ := ⟨HXC_⟩
        have HFC : Hold _ := ⟨HFC_⟩
        have HB : Hold _ := ⟨HB_⟩
        clear HB_ HXA_ HFA_ HXB_ HFB_ HXC_ HFC_
        go_wp2_with fail
        refine (zero_fitB HFC.out (decide_eq_false HZC.out)).mono ?_
        rintro en wz3 ⟨_, rfl, rfl, hb⟩
        have HXA_ := HXA.out.below hb HXA.out.lt
        have HFA_ := HFA.out.below hb
        have HXB_ := HXB.out.below hb HXB.out.lt
        have HFB_ := HFB.out.below hb
        have HXC_ := HXC.out.below hb HXC.out.lt
        have HFC_ := HFC.out.below hb
        have HB_ := bstep HB.out hb
        clear hb HB HXA HFA HXB HFB HXC HFC cA cB cC
        have cA := HXA_.cell
        have HXA : Hold _ := ⟨HXA_⟩
        have HFA : Hold _ := ⟨HFA_⟩
        have cB := HXB_.cell
        have HXB : Hold _ := ⟨HXB_⟩
        have HFB : Hold _ := ⟨HFB_⟩
        have cC := HXC_.cell
        have HXC : Hold _ := ⟨HXC_⟩
        have HFC : Hold _ := ⟨HFC_⟩
        have HB : Hold _ := ⟨HB_⟩
        clear HB_ HXA_ HFA_ HXB_ HFB_ HXC_ HFC_
        go_wp2
        go_ret
        exact ⟨rfl, HB.out⟩
  · obtain rfl : KA = 0 := by rw [HKA.out, if_neg hzA]
    have HZA : Hold _ := ⟨hzA⟩
    clear hzA HKA
    by_cases hzB : B = 0
    · obtain rfl : KB = 1 := by rw [HKB.out, if_pos hzB]
      have HZB : Hold _ := ⟨hzB⟩
      clear hzB HKB
      by_cases hzC : C = 0
      · obtain rfl : KC = 1 := by rw [HKC.out, if_pos hzC]
        have HZC : Hold _ := ⟨hzC⟩
        clear hzC HKC
        go_wp2_with fail
        refine (zero_fitB HFA.out (decide_eq_false HZA.out)).mono ?_
        rintro en wz0 ⟨_, rfl, rfl, hb⟩
        have HXA_ := HXA.out.below hb HXA.out.lt
        have HFA_ := HFA.out.below hb
        have HXB_ := HXB.out.below hb HXB.out.lt
        have HFB_ := HFB.out.below hb
        have HXC_ := HXC.out.below hb HXC.out.lt
        have HFC_ := HFC.out.below hb
        have HB_ := bstep HB.out hb
        clear hb HB HXA HFA HXB HFB HXC HFC cA cB cC
        have cA := HXA_.cell
        have HXA : Hold _ := ⟨HXA_⟩
        have HFA : Hold _ := ⟨HFA_⟩
        have cB := HXB_.cell
        have HXB : Hold _ := ⟨HXB_⟩
        have HFB : Hold _ := ⟨HFB_⟩
        have cC := HXC_.cell
        have HXC : Hold _ := ⟨HXC_⟩
        have HFC : Hold _ := ⟨HFC_⟩
        have HB : Hold _ := ⟨HB_⟩
        clear HB_ HXA_ HFA_ HXB_ HFB_ HXC_ HFC_
        go_wp2_with fail
        refine (zero_fitB HFB.out (decide_eq_true HZB.out)).mono ?_
        rintro en wz1 ⟨_, rfl, rfl, hb⟩
        have HXA_ := HXA.out.below hb HXA.out.lt
        have HFA_ := HFA.out.below hb
        have HXB_ := HXB.out.below hb HXB.out.lt
        have HFB_ := HFB.out.below hb
        have HXC_ := HXC.out.below hb HXC.out.lt
        have HFC_ := HFC.out.below hb
        have HB_ := bstep HB.out hb
        clear hb HB HXA HFA HXB HFB HXC HFC cA cB cC
        have cA := HXA_.cell
        have HXA : Hold _ := ⟨HXA_⟩
        have HFA : Hold _ := ⟨HFA_⟩
        have cB := HXB_.cell
        have HXB : Hold _ := ⟨HXB_⟩
        have HFB : Hold _ := ⟨HFB_⟩
        have cC := HXC_.cell
        have HXC : Hold _ := ⟨HXC_⟩
        have HFC : Hold _ := ⟨HFC_⟩
        have HB : Hold _ := ⟨HB_⟩
        clear HB_ HXA_ HFA_ HXB_ HFB_ HXC_ HFC_
        go_wp2_with fail
        refine (zero_fitB HFA.out (decide_eq_false HZA.out)).mono ?_
        rintro en wz2 ⟨_, rfl, rfl, hb⟩
        have HXA_ := HXA.out.below hb HXA.out.lt
        have HFA_ := HFA.out.below hb
        have HXB_ := HXB.out.below hb HXB.out.lt
        have HFB_ := HFB.out.below hb
        have HXC_ := HXC.out.below hb HXC.out.lt
        have HFC_ := HFC.out.below hb
        have HB_ := bstep HB.out hb
        clear hb HB HXA HFA HXB HFB HXC HFC cA cB cC
        have cA := HXA_.cell
        have HXA : Hold _ := ⟨HXA_⟩
        have HFA : Hold _ := ⟨HFA_⟩
        have cB := HXB_.cell
        have HXB : Hold _ := ⟨HXB_⟩
        have HFB : Hold _ := ⟨HFB_⟩
        have cC := HXC_.cell
        have HXC : Hold _ := ⟨HXC_⟩
        have HFC : Hold _ := ⟨HFC_⟩
        have HB : Hold _ := ⟨HB_⟩
        clear HB_ HXA_ HFA_ HXB_ HFB_ HXC_ HFC_
        go_wp2_with fail
        refine (zero_fitB HFB.out (decide_eq_true HZB.out)).mono ?_
        rintro en wz3 ⟨_, rfl, rfl, hb⟩
        have HXA_ := HXA.out.below hb HXA.out.lt
        have HFA_ := HFA.out.below hb
        have HXB_ := HXB.out.below hb HXB.out.lt
        have HFB_ := HFB.out.below hb
        have HXC_ := HXC.out.below hb HXC.out.lt
        have HFC_ := HFC.out.below hb
        have HB_ := bstep HB.out hb
        clear hb HB HXA HFA HXB HFB HXC HFC cA cB cC
        have cA := HXA_.cell
        have HXA : Hold _ := ⟨HXA_⟩
        have HFA : Hold _ := ⟨HFA_⟩
        have cB := HXB_.cell
        have HXB : Hold _ := ⟨HXB_⟩
        have HFB : Hold _ := ⟨HFB_⟩
        have cC := HXC_.cell
        have HXC : Hold _ := ⟨HXC_⟩
        have HFC : Hold _ := ⟨HFC_⟩
        have HB : Hold _ := ⟨HB_⟩
        clear HB_ HXA_ HFA_ HXB_ HFB_ HXC_ HFC_
        go_wp2_with fail
        refine (zero_fitB HFC.out (decide_eq_true HZC.out)).mono ?_
        rintro en wz4 ⟨_, rfl, rfl, hb⟩
        have HXA_ := HXA.out.below hb HXA.out.lt
        have HFA_ := HFA.out.below hb
        have HXB_ := HXB.out.below hb HXB.out.lt
        have HFB_ := HFB.out.below hb
        have HXC_ := HXC.out.below hb HXC.out.lt
        have HFC_ := HFC.out.below hb
        have HB_ := bstep HB.out hb
        clear hb HB HXA HFA HXB HFB HXC HFC cA cB cC
        have cA := HXA_.cell
        have HXA : Hold _ := ⟨HXA_⟩
        have HFA : Hold _ := ⟨HFA_⟩
        have cB := HXB_.cell
        have HXB : Hold _ := ⟨HXB_⟩
        have HFB : Hold _ := ⟨HFB_⟩
        have cC := HXC_.cell
        have HXC : Hold _ := ⟨HXC_⟩
        have HFC : Hold _ := ⟨HFC_⟩
        have HB : Hold _ := ⟨HB_⟩
        clear HB_ HXA_ HFA_ HXB_ HFB_ HXC_ HFC_
        go_wp2
        go_ret
        exact ⟨rfl, HB.out⟩
      · obtain rfl : KC = 0 := by rw [HKC.out, if_neg hzC]
        have HZC : Hold _ := ⟨hzC⟩
        clear hzC HKC
        go_wp2_with fail
        refine (zero_fitB HFA.out (decide_eq_false HZA.out)).mono ?_
        rintro en wz0 ⟨_, rfl, rfl, hb⟩
        have HXA_ := HXA.out.below hb HXA.out.lt
        have HFA_ := HFA.out.below hb
        have HXB_ := HXB.out.below hb HXB.out.lt
        have HFB_ := HFB.out.below hb
        have HXC_ := HXC.out.below hb HXC.out.lt
        have HFC_ := HFC.out.below hb
        have HB_ := bstep HB.out hb
        clear hb HB HXA HFA HXB HFB HXC HFC cA cB cC
        have cA := HXA_.cell
        have HXA : Hold _ := ⟨HXA_⟩
        have HFA : Hold _ := ⟨HFA_⟩
        have cB := HXB_.cell
        have HXB : Hold _ := ⟨HXB_⟩
        have HFB : Hold _ := ⟨HFB_⟩
        have cC := HXC_.cell
        have HXC : Hold _ := ⟨HXC_⟩
        have HFC : Hold _ := ⟨HFC_⟩
        have HB : Hold _ := ⟨HB_⟩
        clear HB_ HXA_ HFA_ HXB_ HFB_ HXC_ HFC_
        go_wp2_with fail
        refine (zero_fitB HFB.out (decide_eq_true HZB.out)).mono ?_
        rintro en wz1 ⟨_, rfl, rfl, hb⟩
        have HXA_ := HXA.out.below hb HXA.out.lt
        have HFA_ := HFA.out.below hb
        have HXB_ := HXB.out.below hb HXB.out.lt
        have HFB_ := HFB.out.below hb
        have HXC_ := HXC.out.below hb HXC.out.lt
        have HFC_ := HFC.out.below hb
        have HB_ := bstep HB.out hb
        clear hb HB HXA HFA HXB HFB HXC HFC cA cB cC
        have cA := HXA_.cell
        have HXA : Hold _ := ⟨HXA_⟩
        have HFA : Hold _ := ⟨HFA_⟩
        have cB := HXB_.cell
        have HXB : Hold _ := ⟨HXB_⟩
        have HFB : Hold _ := ⟨HFB_⟩
        have cC := HXC_.cell
        have HXC : Hold _ := ⟨HXC_⟩
        have HFC : Hold _ := ⟨HFC_⟩
        have HB : Hold _ := ⟨HB_⟩
        clear HB_ HXA_ HFA_ HXB_ HFB_ HXC_ HFC_
        go_wp2_with fail
        refine (zero_fitB HFA.out (decide_eq_false HZA.out)).mono ?_
        rintro en wz2 ⟨_, rfl, rfl, hb⟩
        have HXA_ := HXA.out.below hb HXA.out.lt
        have HFA_ := HFA.out.below hb
        have HXB_ := HXB.out.below hb HXB.out.lt
        have HFB_ := HFB.out.below hb
        have HXC_ := HXC.out.below hb HXC.out.lt
        have HFC_ := HFC.out.below hb
        have HB_ := bstep HB.out hb
        clear hb HB HXA HFA HXB HFB HXC HFC cA cB cC
        have cA := HXA_.cell
        have HXA : Hold _ := ⟨HXA_⟩
        have HFA : Hold _ := ⟨HFA_⟩
        have cB := HXB_.cell
        have HXB : Hold _ := ⟨HXB_⟩
        have HFB : Hold _ := ⟨HFB_⟩
        have cC := HXC_.cell
        have HXC : Hold _ := ⟨HXC_⟩
        have HFC : Hold _ := ⟨HFC_⟩
        have HB : Hold _ := ⟨HB_⟩
        clear HB_ HXA_ HFA_ HXB_ HFB_ HXC_ HFC_
        go_wp2_with fail
        refine (zero_fitB HFB.out (decide_eq_true HZB.out)).mono ?_
        rintro en wz3 ⟨_, rfl, rfl, hb⟩
        have HXA_ := HXA.out.below hb HXA.out.lt
        have HFA_ := HFA.out.below hb
        have HXB_ := HXB.out.below hb HXB.out.lt
        have HFB_ := HFB.out.below hb
        have HXC_ := HXC.out.below hb HXC.out.lt
        have HFC_ := HFC.out.below hb
        have HB_ := bstep HB.out hb
        clear hb HB HXA HFA HXB HFB HXC HFC cA cB cC
        have cA := HXA_.cell
        have HXA : Hold _ := ⟨HXA_⟩
        have HFA : Hold _ := ⟨HFA_⟩
        have cB := HXB_.cell
        have HXB : Hold _ := ⟨HXB_⟩
        have HFB : Hold _ := ⟨HFB_⟩
        have cC := HXC_.cell
        have HXC : Hold _ := ⟨HXC_⟩
        have HFC : Hold _ := ⟨HFC_⟩
        have HB : Hold _ := ⟨HB_⟩
        clear HB_ HXA_ HFA_ HXB_ HFB_ HXC_ HFC_
        go_wp2_with fail
        refine (zero_fitB HFC.out (decide_eq_false HZC.out)).mono ?_
        rintro en wz4 ⟨_, rfl, rfl, hb⟩
        have HXA_ := HXA.out.below hb HXA.out.lt
        have HFA_ := HFA.out.below hb
        have HXB_ := HXB.out.below hb HXB.out.lt
        have HFB_ := HFB.out.below hb
        have HXC_ := HXC.out.below hb HXC.out.lt
        have HFC_ := HFC.out.below hb
        have HB_ := bstep HB.out hb
        clear hb HB HXA HFA HXB HFB HXC HFC cA cB cC
        have cA := HXA_.cell
        have HXA : Hold _ := ⟨HXA_⟩
        have HFA : Hold _ := ⟨HFA_⟩
        have cB := HXB_.cell
        have HXB : Hold _ := ⟨HXB_⟩
        have HFB : Hold _ := ⟨HFB_⟩
        have cC := HXC_.cell
        have HXC : Hold _ := ⟨HXC_⟩
        have HFC : Hold _ := ⟨HFC_⟩
        have HB : Hold _ := ⟨HB_⟩
        clear HB_ HXA_ HFA_ HXB_ HFB_ HXC_ HFC_
        go_wp2
        go_ret
        exact ⟨rfl, HB.out⟩
    · obtain rfl : KB = 0 := by rw [HKB.out, if_neg hzB]
      have HZB : Hold _ := ⟨hzB⟩
      clear hzB HKB
      by_cases hzC : C = 0
      · obtain rfl : KC = 1 := by rw [HKC.out, if_pos hzC]
        have HZC : Hold _ := ⟨hzC⟩
        clear hzC HKC
        go_wp2_with fail
        refine (zero_fitB HFA.out (decide_eq_false HZA.out)).mono ?_
        rintro en wz0 ⟨_, rfl, rfl, hb⟩
        have HXA_ := HXA.out.below hb HXA.out.lt
        have HFA_ := HFA.out.below hb
        have HXB_ := HXB.out.below hb HXB.out.lt
        have HFB_ := HFB.out.below hb
        have HXC_ := HXC.out.below hb HXC.out.lt
        have HFC_ := HFC.out.below hb
        have HB_ := bstep HB.out hb
        clear hb HB HXA HFA HXB HFB HXC HFC cA cB cC
        have cA := HXA_.cell
        have HXA : Hold _ := ⟨HXA_⟩
        have HFA : Hold _ := ⟨HFA_⟩
        have cB := HXB_.cell
        have HXB : Hold _ := ⟨HXB_⟩
        have HFB : Hold _ := ⟨HFB_⟩
        have cC := HXC_.cell
        have HXC : Hold _ := ⟨HXC_⟩
        have HFC : Hold _ := ⟨HFC_⟩
        have HB : Hold _ := ⟨HB_⟩
        clear HB_ HXA_ HFA_ HXB_ HFB_ HXC_ HFC_
        go_wp2_with fail
        refine (zero_fitB HFB.out (decide_eq_false HZB.out)).mono ?_
        rintro en wz1 ⟨_, rfl, rfl, hb⟩
        have HXA_ := HXA.out.below hb HXA.out.lt
        have HFA_ := HFA.out.below hb
        have HXB_ := HXB.out.below hb HXB.out.lt
        have HFB_ := HFB.out.below hb
        have HXC_ := HXC.out.below hb HXC.out.lt
        have HFC_ := HFC.out.below hb
        have HB_ := bstep HB.out hb
        clear hb HB HXA HFA HXB HFB HXC HFC cA cB cC
        have cA := HXA_.cell
        have HXA : Hold _ := ⟨HXA_⟩
        have HFA : Hold _ := ⟨HFA_⟩
        have cB := HXB_.cell
        have HXB : Hold _ := ⟨HXB_⟩
        have HFB : Hold _ := ⟨HFB_⟩
        have cC := HXC_.cell
        have HXC : Hold _ := ⟨HXC_⟩
        have HFC : Hold _ := ⟨HFC_⟩
        have HB : Hold _ := ⟨HB_⟩
        clear HB_ HXA_ HFA_ HXB_ HFB_ HXC_ HFC_
        go_wp2_with fail
        refine (zero_fitB HFC.out (decide_eq_true HZC.out)).mono ?_
        rintro en wz2 ⟨_, rfl, rfl, hb⟩
        have HXA_ := HXA.out.below hb HXA.out.lt
        have HFA_ := HFA.out.below hb
        have HXB_ := HXB.out.below hb HXB.out.lt
        have HFB_ := HFB.out.below hb
        have HXC_ := HXC.out.below hb HXC.out.lt
        have HFC_ := HFC.out.below hb
        have HB_ := bstep HB.out hb
        clear hb HB HXA HFA HXB HFB HXC HFC cA cB cC
        have cA := HXA_.cell
        have HXA : Hold _ := ⟨HXA_⟩
        have HFA : Hold _ := ⟨HFA_⟩
        have cB := HXB_.cell
        have HXB : Hold _ := ⟨HXB_⟩
        have HFB : Hold _ := ⟨HFB_⟩
        have cC := HXC_.cell
        have HXC : Hold _ := ⟨HXC_⟩
        have HFC : Hold _ := ⟨HFC_⟩
        have HB : Hold _ := ⟨HB_⟩
        clear HB_ HXA_ HFA_ HXB_ HFB_ HXC_ HFC_
        go_wp2_with fail
        refine (zero_fitB HFA.out (decide_eq_false HZA.out)).mono ?_
        rintro en wz3 ⟨_, rfl, rfl, hb⟩
        have HXA_ := HXA.out.below hb HXA.out.lt
        have HFA_ := HFA.out.below hb
        have HXB_ := HXB.out.below hb HXB.out.lt
        have HFB_ := HFB.out.below hb
        have HXC_ := HXC.out.below hb HXC.out.lt
        have HFC_ := HFC.out.below hb
        have HB_ := bstep HB.out hb
        clear hb HB HXA HFA HXB HFB HXC HFC cA cB cC
        have cA := HXA_.cell
        have HXA : Hold _ := ⟨HXA_⟩
        have HFA : Hold _ := ⟨HFA_⟩
        have cB := HXB_.cell
        have HXB : Hold _ := ⟨HXB_⟩
        have HFB : Hold _ := ⟨HFB_⟩
        have cC := HXC_.cell
        have HXC : Hold _ := ⟨HXC_⟩
        have HFC : Hold _ := ⟨HFC_⟩
        have HB : Hold _ := ⟨HB_⟩
        clear HB_ HXA_ HFA_ HXB_ HFB_ HXC_ HFC_
        go_wp2_with fail
        refine (zero_fitB HFB.out (decide_eq_false HZB.out)).mono ?_
        rintro en wz4 ⟨_, rfl, rfl, hb⟩
        have HXA_ := HXA.out.below hb HXA.out.lt
        have HFA_ := HFA.out.below hb
        have HXB_ := HXB.out.below hb HXB.out.lt
        have HFB_ := HFB.out.below hb
        have HXC_ := HXC.out.below hb HXC.out.lt
        have HFC_ := HFC.out.below hb
        have HB_ := bstep HB.out hb
        clear hb HB HXA HFA HXB HFB HXC HFC cA cB cC
        have cA := HXA_.cell
        have HXA : Hold _ := ⟨HXA_⟩
        have HFA : Hold _ := ⟨HFA_⟩
        have cB := HXB_.cell
        have HXB : Hold _ := ⟨HXB_⟩
        have HFB : Hold _ := ⟨HFB_⟩
        have cC := HXC_.cell
        have HXC : Hold _ := ⟨HXC_⟩
        have HFC : Hold _ := ⟨HFC_⟩
        have HB : Hold _ := ⟨HB_⟩
        clear HB_ HXA_ HFA_ HXB_ HFB_ HXC_ HFC_
        go_wp2_with fail
        refine (zero_fitB HFC.out (decide_eq_true HZC.out)).mono ?_
        rintro en wz5 ⟨_, rfl, rfl, hb⟩
        have HXA_ := HXA.out.below hb HXA.out.lt
        have HFA_ := HFA.out.below hb
        have HXB_ := HXB.out.below hb HXB.out.lt
        have HFB_ := HFB.out.below hb
        have HXC_ := HXC.out.below hb HXC.out.lt
        have HFC_ := HFC.out.below hb
        have HB_ := bstep HB.out hb
        clear hb HB HXA HFA HXB HFB HXC HFC cA cB cC
        have cA := HXA_.cell
        have HXA : Hold _ := ⟨HXA_⟩
        have HFA : Hold _ := ⟨HFA_⟩
        have cB := HXB_.cell
        have HXB : Hold _ := ⟨HXB_⟩
        have HFB : Hold _ := ⟨HFB_⟩
        have cC := HXC_.cell
        have HXC : Hold _ := ⟨HXC_⟩
        have HFC : Hold _ := ⟨HFC_⟩
        have HB : Hold _ := ⟨HB_⟩
        clear HB_ HXA_ HFA_ HXB_ HFB_ HXC_ HFC_
        go_wp2
        go_ret
        exact ⟨rfl, HB.out⟩
      · obtain rfl : KC = 0 := by rw [HKC.out, if_neg hzC]
        have HZC : Hold _ := ⟨hzC⟩
        clear hzC HKC
        have HPR : Hold (YA * YB % P = YC) := ⟨by
          rw [HYA.out, HYB.out, HYC.out, if_neg HZA.out, if_neg HZB.out, if_neg HZC.out, ← HEC.out, ← Nat.mul_mod, ← Nat.pow_add]
          exact pow_order (by rw [HP2.out.2.2, Nat.mod_eq_of_lt (by have := HP2.out; omega)]) _⟩
        have HMB : Hold (decide (0 < YC ∧ YC < P ∧ YC ^ Q % P = 1) = true) := ⟨decide_eq_true (by
          rw [HYC.out, if_neg HZC.out]
          exact key_mem HP2.out.1 (by have := HP2.out; omega) HP2.out.2.2 C)⟩
        go_wp2_with fail
        refine (zero_fitB HFA.out (decide_eq_false HZA.out)).mono ?_
        rintro en wz0 ⟨_, rfl, rfl, hb⟩
        have HXA_ := HXA.out.below hb HXA.out.lt
        have HFA_ := HFA.out.below hb
        have HXB_ := HXB.out.below hb HXB.out.lt
        have HFB_ := HFB.out.below hb
        have HXC_ := HXC.out.below hb HXC.out.lt
        have HFC_ := HFC.out.below hb
        have HXP_ := HXP.out.below hb HXP.out.lt
        have HFP_ := HFP.out.below hb
        have HXQ_ := HXQ.out.below hb HXQ.out.lt
        have HFQ_ := HFQ.out.below hb
        have HXR_ := HXR.out.below hb HXR.out.lt
        have HFR_ := HFR.out.below hb
        have HB_ := bstep HB.out hb
        have HG_ := HG.out.below hb
        clear hb HG HB HXA HFA HXB HFB HXC HFC HXP HFP HXQ HFQ HXR HFR cA cB cC
        have cA := HXA_.cell
        have HXA : Hold _ := ⟨HXA_⟩
        have HFA : Hold _ := ⟨HFA_⟩
        have cB := HXB_.cell
        have HXB : Hold _ := ⟨HXB_⟩
        have HFB : Hold _ := ⟨HFB_⟩
        have cC := HXC_.cell
        have HXC : Hold _ := ⟨HXC_⟩
        have HFC : Hold _ := ⟨HFC_⟩
        have HXP : Hold _ := ⟨HXP_⟩
        have HFP : Hold _ := ⟨HFP_⟩
        have HXQ : Hold _ := ⟨HXQ_⟩
        have HFQ : Hold _ := ⟨HFQ_⟩
        have HXR : Hold _ := ⟨HXR_⟩
        have HFR : Hold _ := ⟨HFR_⟩
        have HG : Hold _ := ⟨HG_⟩
        have HB : Hold _ := ⟨HB_⟩
        clear HG_
        clear HB_ HXA_ HFA_ HXB_ HFB_ HXC_ HFC_ HXP_ HFP_ HXQ_ HFQ_ HXR_ HFR_
        go_wp2_with fail
        refine (zero_fitB HFB.out (decide_eq_false HZB.out)).mono ?_
        rintro en wz1 ⟨_, rfl, rfl, hb⟩
        have HXA_ := HXA.out.below hb HXA.out.lt
        have HFA_ := HFA.out.below hb
        have HXB_ := HXB.out.below hb HXB.out.lt
        have HFB_ := HFB.out.below hb
        have HXC_ := HXC.out.below hb HXC.out.lt
        have HFC_ := HFC.out.below hb
        have HXP_ := HXP.out.below hb HXP.out.lt
        have HFP_ := HFP.out.below hb
        have HXQ_ := HXQ.out.below hb HXQ.out.lt
        have HFQ_ := HFQ.out.below hb
        have HXR_ := HXR.out.below hb HXR.out.lt
        have HFR_ := HFR.out.below hb
        have HB_ := bstep HB.out hb
        have HG_ := HG.out.below hb
        clear hb HG HB HXA HFA HXB HFB HXC HFC HXP HFP HXQ HFQ HXR HFR cA cB cC
        have cA := HXA_.cell
        have HXA : Hold _ := ⟨HXA_⟩
        have HFA : Hold _ := ⟨HFA_⟩
        have cB := HXB_.cell
        have HXB : Hold _ := ⟨HXB_⟩
        have HFB : Hold _ := ⟨HFB_⟩
        have cC := HXC_.cell
        have HXC : Hold _ := ⟨HXC_⟩
        have HFC : Hold _ := ⟨HFC_⟩
        have HXP : Hold _ := ⟨HXP_⟩
        have HFP : Hold _ := ⟨HFP_⟩
        have HXQ : Hold _ := ⟨HXQ_⟩
        have HFQ : Hold _ := ⟨HFQ_⟩
        have HXR : Hold _ := ⟨HXR_⟩
        have HFR : Hold _ := ⟨HFR_⟩
        have HG : Hold _ := ⟨HG_⟩
        have HB : Hold _ := ⟨HB_⟩
        clear HG_
        clear HB_ HXA_ HFA_ HXB_ HFB_ HXC_ HFC_ HXP_ HFP_ HXQ_ HFQ_ HXR_ HFR_
        go_wp2_with fail
        refine (zero_fitB HFC.out (decide_eq_false HZC.out)).mono ?_
        rintro en wz2 ⟨_, rfl, rfl, hb⟩
        have HXA_ := HXA.out.below hb HXA.out.lt
        have HFA_ := HFA.out.below hb
        have HXB_ := HXB.out.below hb HXB.out.lt
        have HFB_ := HFB.out.below hb
        have HXC_ := HXC.out.below hb HXC.out.lt
        have HFC_ := HFC.out.below hb
        have HXP_ := HXP.out.below hb HXP.out.lt
        have HFP_ := HFP.out.below hb
        have HXQ_ := HXQ.out.below hb HXQ.out.lt
        have HFQ_ := HFQ.out.below hb
        have HXR_ := HXR.out.below hb HXR.out.lt
        have HFR_ := HFR.out.below hb
        have HB_ := bstep HB.out hb
        have HG_ := HG.out.below hb
        clear hb HG HB HXA HFA HXB HFB HXC HFC HXP HFP HXQ HFQ HXR HFR cA cB cC
        have cA := HXA_.cell
        have HXA : Hold _ := ⟨HXA_⟩
        have HFA : Hold _ := ⟨HFA_⟩
        have cB := HXB_.cell
        have HXB : Hold _ := ⟨HXB_⟩
        have HFB : Hold _ := ⟨HFB_⟩
        have cC := HXC_.cell
        have HXC : Hold _ := ⟨HXC_⟩
        have HFC : Hold _ := ⟨HFC_⟩
        have HXP : Hold _ := ⟨HXP_⟩
        have HFP : Hold _ := ⟨HFP_⟩
        have HXQ : Hold _ := ⟨HXQ_⟩
        have HFQ : Hold _ := ⟨HFQ_⟩
        have HXR : Hold _ := ⟨HXR_⟩
        have HFR : Hold _ := ⟨HFR_⟩
        have HG : Hold _ := ⟨HG_⟩
        have HB : Hold _ := ⟨HB_⟩
        clear HG_
        clear HB_ HXA_ HFA_ HXB_ HFB_ HXC_ HFC_ HXP_ HFP_ HXQ_ HFQ_ HXR_ HFR_
        clear cA cB cC
        go_wp2
        refine wp_region_duties (by kernel_rfl) (by kernel_rfl)
          [some (.int .i64 0), some (.bool true), some (.bool true), some (.int .i64 0), some (.bool true), some (.bool true), some (.bool true), some (.int .i64 0), some (.bool true), some (.bool true), some (.bool true), some (.pointer (some ⟨b, 0, none⟩)), some (.agg #[.slice px nx cx]), some (.agg #[.slice py ny cy]), none, some (.agg #[.slice pr nr cr]), none, some (.bool true), some (.bool true), some (.bool true), some (.pointer (some ⟨b, 0, none⟩)), some (.agg #[.slice pr nr cr]), none, some (.bool true), some (.bool true)]
          [false, false, false, false, false, false, false, false, false, false, false, false, false, false, true, false, true, false, false, false, false, false, true, false, false] rfl
          (fun w1 w2 => Below w1.heap.size w1 w2)
          (fun _ w' => Below wz2.heap.size wz2 w')
          (fun i v w' => match i with
            | 14 => Fit 33 (YC) v w'
            | 16 => v = .int .i64 0
            | 22 => v = .bool true
            | _ => True)
          ?_ (Below.refl _ _).drew ?_ ?_
        · intro i v w1 w2 hf hb
          split at hf
          · exact hf.below hb
          · exact hf
          · exact hf
          · trivial
        · simp only [Duties, Nat.reduceAdd]
          refine ⟨?_, ?_, ?_, ?_, ?_, ?_, ?_, ?_, ?_, ?_, ?_, ?_, ?_, ?_, ?_, ?_, ?_, ?_, ?_, ?_, ?_, ?_, ?_, ?_, ?_, trivial⟩
          case refine_1 =>
            intro D sp w' hD hW hdp hbx'
            (with_reducible refine asked_value (w1 := w') (v := .int .i64 0) ?_ ?_ ?_)
            · first | (simp only [Region.wanted]; done) | simp [Region.wanted, yielded, Act.put, go_sem]
            · simp [execOp, Act.eval, go_sem]
            · exact ⟨rfl, rfl⟩
          case refine_2 =>
            intro D sp w' hD hW hdp hbx'
            (with_reducible refine asked_value (w1 := w') (v := .bool true) ?_ ?_ ?_)
            · first | (simp only [Region.wanted]; done) | simp [Region.wanted, yielded, Act.put, go_sem]
            · simp [execOp, Act.eval, Act.put, go_sem]
            · exact ⟨rfl, rfl⟩
          case refine_3 =>
            intro D sp w' hD hW hdp hbx'
            (with_reducible refine asked_value (w1 := w') (v := .bool true) ?_ ?_ ?_)
            · first | (simp only [Region.wanted]; done) | simp [Region.wanted, yielded, Act.put, go_sem]
            · simp [execOp, Act.eval, Act.put, go_sem]
            · exact ⟨rfl, rfl⟩
          case refine_4 =>
            intro D sp w' hD hW hdp hbx'
            (with_reducible refine asked_value (w1 := w') (v := .int .i64 0) ?_ ?_ ?_)
            · first | (simp only [Region.wanted]; done) | simp [Region.wanted, yielded, Act.put, go_sem]
            · simp [execOp, Act.eval, Act.put, go_sem]
            · exact ⟨rfl, rfl⟩
          case refine_5 =>
            intro D sp w' hD hW hdp hbx'
            (with_reducible refine asked_value (w1 := w') (v := .bool true) ?_ ?_ ?_)
            · first | (simp only [Region.wanted]; done) | simp [Region.wanted, yielded, Act.put, go_sem]
            · simp [execOp, Act.eval, Act.put, go_sem]
            · exact ⟨rfl, rfl⟩
          case refine_6 =>
            intro D sp w' hD hW hdp hbx'
            (with_reducible refine asked_value (w1 := w') (v := .bool true) ?_ ?_ ?_)
            · first | (simp only [Region.wanted]; done) | simp [Region.wanted, yielded, Act.put, go_sem]
            · simp [execOp, Act.eval, Act.put, go_sem]
            · exact ⟨rfl, rfl⟩
          case refine_7 =>
            intro D sp w' hD hW hdp hbx'
            (with_reducible refine asked_value (w1 := w') (v := .bool true) ?_ ?_ ?_)
            · first | (simp only [Region.wanted]; done) | simp [Region.wanted, yielded, Act.put, go_sem]
            · simp [execOp, Act.eval, Act.put, go_sem]
            · exact ⟨rfl, rfl⟩
          case refine_8 =>
            intro D sp w' hD hW hdp hbx'
            (with_reducible refine asked_value (w1 := w') (v := .int .i64 0) ?_ ?_ ?_)
            · first | (simp only [Region.wanted]; done) | simp [Region.wanted, yielded, Act.put, go_sem]
            · simp [execOp, Act.eval, Act.put, go_sem]
            · exact ⟨rfl, rfl⟩
          case refine_9 =>
            intro D sp w' hD hW hdp hbx'
            (with_reducible refine asked_value (w1 := w') (v := .bool true) ?_ ?_ ?_)
            · first | (simp only [Region.wanted]; done) | simp [Region.wanted, yielded, Act.put, go_sem]
            · simp [execOp, Act.eval, Act.put, go_sem]
            · exact ⟨rfl, rfl⟩
          case refine_10 =>
            intro D sp w' hD hW hdp hbx'
            (with_reducible refine asked_value (w1 := w') (v := .bool true) ?_ ?_ ?_)
            · first | (simp only [Region.wanted]; done) | simp [Region.wanted, yielded, Act.put, go_sem]
            · simp [execOp, Act.eval, Act.put, go_sem]
            · exact ⟨rfl, rfl⟩
          case refine_11 =>
            intro D sp w' hD hW hdp hbx'
            (with_reducible refine asked_value (w1 := w') (v := .bool true) ?_ ?_ ?_)
            · first | (simp only [Region.wanted]; done) | simp [Region.wanted, yielded, Act.put, go_sem]
            · simp [execOp, Act.eval, Act.put, go_sem]
            · exact ⟨rfl, rfl⟩
          case refine_12 =>
            intro D sp w' hD hW hdp hbx'
            (with_reducible refine asked_value (w1 := w') (v := .pointer (some ⟨b, 0, none⟩)) ?_ ?_ ?_)
            · first | (simp only [Region.wanted]; done) | simp [Region.wanted, yielded, Act.put, go_sem]
            · simp [execOp, Act.eval, Act.put, go_sem]
            · exact ⟨rfl, rfl⟩
          case refine_13 =>
            intro D sp w' hD hW hdp hbx'
            have c0 := (HXP.out.below hbx' HXP.out.lt).cell
            (with_reducible refine asked_value (w1 := w') (v := .agg #[.slice px nx cx]) ?_ ?_ ?_)
            · first | (simp only [Region.wanted]; done) | simp [Region.wanted, yielded, Act.put, go_sem]
            · simp [execOp, Act.eval, Act.put, go_sem, c0]
            · exact ⟨rfl, rfl⟩
          case refine_14 =>
            intro D sp w' hD hW hdp hbx'
            have c0 := (HXQ.out.below hbx' HXQ.out.lt).cell
            (with_reducible refine asked_value (w1 := w') (v := .agg #[.slice py ny cy]) ?_ ?_ ?_)
            · first | (simp only [Region.wanted]; done) | simp [Region.wanted, yielded, Act.put, go_sem]
            · simp [execOp, Act.eval, Act.put, go_sem, c0]
            · exact ⟨rfl, rfl⟩
          case refine_15 =>
            intro D sp w' hD hW hdp hbx'
            (with_reducible refine asked_call (w1 := w') (f := 57) (args := #[.pointer (some ⟨b, 0, none⟩), .agg #[.slice px nx cx], .agg #[.slice py ny cy]]) ?_ ?_ ?_)
            · first | (simp only [Region.wanted]; done) | simp [Region.wanted, yielded, Act.put, go_sem]
            · simp [Act.eval, Act.put, go_sem]
            · refine (gmul_fit (HG.out.below hbx') (HFP.out.below hbx') (HFQ.out.below hbx') (by decide) (by decide)).mono ?_
              rintro en w9 ⟨u, rfl, hu, hb⟩
              rw [HPR.out] at hu
              exact ⟨u, rfl, hb, hu, bstep hbx' hb⟩
          case refine_16 =>
            intro D sp w' hD hW hdp hbx'
            have c0 := (HXR.out.below hbx' HXR.out.lt).cell
            (with_reducible refine asked_value (w1 := w') (v := .agg #[.slice pr nr cr]) ?_ ?_ ?_)
            · first | (simp only [Region.wanted]; done) | simp [Region.wanted, yielded, Act.put, go_sem]
            · simp [execOp, Act.eval, Act.put, go_sem, c0]
            · exact ⟨rfl, rfl⟩
          case refine_17 =>
            intro D sp w' hD hW hdp hbx'
            have k14 : Fit 33 (YC) (sp 14) w' := (hdp 14 (List.mem_of_elem_eq_true (by kernel_rfl))).2
            (with_reducible refine asked_call (w1 := w') (f := 35) (args := #[sp 14, .agg #[.slice pr nr cr]]) ?_ ?_ ?_)
            · first | (simp only [Region.wanted]; done) | simp [Region.wanted, yielded, Act.put, go_sem]
            · simp [Act.eval, Act.put, go_sem]
            · refine (cmp_fitK k14 (HFR.out.below hbx') (by decide) (by decide) (cmpI_zero.2 rfl)).mono ?_
              rintro en w9 ⟨u, rfl, rfl, hb⟩
              exact ⟨_, rfl, hb, rfl, bstep hbx' hb⟩
          case refine_18 =>
            intro D sp w' hD hW hdp hbx'
            have k16 : (sp 16) = .int .i64 0 := (hdp 16 (List.mem_of_elem_eq_true (by kernel_rfl))).2
            (with_reducible refine asked_value (w1 := w') (v := .bool true) ?_ ?_ ?_)
            · first | (simp only [Region.wanted]; done) | simp [Region.wanted, yielded, Act.put, go_sem, k16]
            · simp [execOp, Act.eval, Act.put, go_sem, k16]
            · exact ⟨rfl, rfl⟩
          case refine_19 =>
            intro D sp w' hD hW hdp hbx'
            (with_reducible refine asked_value (w1 := w') (v := .bool true) ?_ ?_ ?_)
            · first | (simp only [Region.wanted]; done) | simp [Region.wanted, yielded, Act.put, go_sem]
            · simp [execOp, Act.eval, Act.put, go_sem]
            · exact ⟨rfl, rfl⟩
          case refine_20 =>
            intro D sp w' hD hW hdp hbx'
            (with_reducible refine asked_value (w1 := w') (v := .bool true) ?_ ?_ ?_)
            · first | (simp only [Region.wanted]; done) | simp [Region.wanted, yielded, Act.put, go_sem]
            · simp [execOp, Act.eval, Act.put, go_sem]
            · exact ⟨rfl, rfl⟩
          case refine_21 =>
            intro D sp w' hD hW hdp hbx'
            (with_reducible refine asked_value (w1 := w') (v := .pointer (some ⟨b, 0, none⟩)) ?_ ?_ ?_)
            · first | (simp only [Region.wanted]; done) | simp [Region.wanted, yielded, Act.put, go_sem]
            · simp [execOp, Act.eval, Act.put, go_sem]
            · exact ⟨rfl, rfl⟩
          case refine_22 =>
            intro D sp w' hD hW hdp hbx'
            have c0 := (HXR.out.below hbx' HXR.out.lt).cell
            (with_reducible refine asked_value (w1 := w') (v := .agg #[.slice pr nr cr]) ?_ ?_ ?_)
            · first | (simp only [Region.wanted]; done) | simp [Region.wanted, yielded, Act.put, go_sem]
            · simp [execOp, Act.eval, Act.put, go_sem, c0]
            · exact ⟨rfl, rfl⟩
          case refine_23 =>
            intro D sp w' hD hW hdp hbx'
            (with_reducible refine asked_call (w1 := w') (f := 58) (args := #[.pointer (some ⟨b, 0, none⟩), .agg #[.slice pr nr cr]]) ?_ ?_ ?_)
            · first | (simp only [Region.wanted]; done) | simp [Region.wanted, yielded, Act.put, go_sem]
            · simp [Act.eval, Act.put, go_sem]
            · refine (gmember_fit (HG.out.below hbx') (HFR.out.below hbx') (by decide)).mono ?_
              rintro en w9 ⟨rfl, hb⟩
              rw [HMB.out]
              exact ⟨_, rfl, hb, rfl, bstep hbx' hb⟩
          case refine_24 =>
            intro D sp w' hD hW hdp hbx'
            have k22 : (sp 22) = .bool true := (hdp 22 (List.mem_of_elem_eq_true (by kernel_rfl))).2
            (with_reducible refine asked_value (w1 := w') (v := .bool true) ?_ ?_ ?_)
            · first | (simp only [Region.wanted]; done) | simp [Region.wanted, yielded, Act.put, go_sem, k22]
            · simp [execOp, Act.eval, Act.put, go_sem, k22]
            · exact ⟨rfl, rfl⟩
          case refine_25 =>
            intro D sp w' hD hW hdp hbx'
            (with_reducible refine asked_value (w1 := w') (v := .bool true) ?_ ?_ ?_)
            · first | (simp only [Region.wanted]; done) | simp [Region.wanted, yielded, Act.put, go_sem]
            · simp [execOp, Act.eval, Act.put, go_sem]
            · exact ⟨rfl, rfl⟩
        · intro sp w9 hsp hb9
          have HBf : Hold _ := ⟨bstep HB.out hb9⟩
          clear hsp hb9
          simp only [frameOf, Nat.reduceAdd]
          generalize sp 14 = y14 at *
          generalize sp 16 = y16 at *
          generalize sp 22 = y22 at *
          go_simp
          go_wp2
          go_ret
          exact ⟨rfl, HBf.out⟩

end Go.Proofs.YtdebccghjbfgdaaGreatDoor
