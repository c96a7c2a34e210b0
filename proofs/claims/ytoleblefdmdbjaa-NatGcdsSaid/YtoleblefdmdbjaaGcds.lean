/- The law of the greatest number that divides two. -/
import Derived.Test.YtoleblefdmdbjaaGcdA
import Derived.Test.YtoleblefdmdbjaaBack
namespace Go.Proofs.Ytoleblefdmdbjaa
open Go Go.RowKit Go.Proofs.Ytoleblefdmdbjaa.Flow

theorem num_cut {bs : List Nat} {k : Nat} (hk : k ≤ 48) : numOf (bs.take k) = be (bs.take k) := by
  unfold numOf; rw [List.take_take, Nat.min_eq_right hk]

theorem num_cut_lt {bs : List Nat} (h : Bytes8 bs) : numOf (bs.take 24) < B32 6 := by
  rw [num_cut (by omega)]
  unfold be
  have h1 := (h.take 24).reverse.lt
  have h2 : B8 (bs.take 24).reverse.length ≤ B8 (4 * 6) := B8_mono (by simp; omega)
  rw [B8_four] at h2
  omega

theorem gcd_fit {w : World} {v u : Value} {e N M : Nat} (h : Fit e N v w) (k : Fit e M u w) (he : e ≤ 800000) :
    Calls Try.prog 37 #[v, u] w fun en w' => ∃ q m d, en = .returned (.agg #[.slice q m d]) ∧ NatAt w' q m d (Nat.gcd N M) ∧ Below w.heap.size w w' := by
  obtain ⟨p, n, c, rfl, h1, h2⟩ := h
  obtain ⟨q, m, d, rfl, k1, k2⟩ := k
  refine (gcd_calls w p n c N q m d M e h1 k1 h2 k2 he).mono ?_
  rintro en w' ⟨q, m, d, rfl, h1, hb, _⟩
  exact ⟨q, m, d, rfl, h1, hb⟩

theorem ref_fit' {w : World} {p : Option Addr} {n c N : Nat} {bs : List Nat} (h : RowIn w .u8 p n c bs) (hb8 : Bytes8 bs) (hN : numOf bs = N) :
    Calls Try.prog 22 #[.slice p n c] w fun en w' => ∃ x, en = .returned x ∧ RBits N x w' ∧ Below w.heap.size w w' := by
  subst hN
  refine (ref_fit h hb8).mono ?_
  rintro en w' ⟨q, m, d, rfl, hn, hb⟩
  exact ⟨_, rfl, RBits.of hn, hb⟩

theorem rgcd_fit {w : World} {v u : Value} {N M : Nat} (h : RBits N v w) (k : RBits M u w) (hN : blen N ≤ 900000) (hM : blen M ≤ 900000) :
    Calls Try.prog 38 #[v, u] w fun en w' => ∃ x, en = .returned x ∧ RBits (Nat.gcd N M) x w' ∧ Below w.heap.size w w' := by
  obtain ⟨p, n, c, rfl, h⟩ := h
  obtain ⟨q, m, d, rfl, k⟩ := k
  refine (rgcd_calls w p n c N q m d M h k hN hM).mono ?_
  rintro en w' ⟨p, n, c, rfl, hr, hb⟩
  exact ⟨_, rfl, RBits.of hr, hb⟩

set_option maxHeartbeats 8000000 in
set_option maxRecDepth 1000000 in
theorem gcds_law (w : World) (px : Option Addr) (nx cx : Nat) (X : List Nat) (py : Option Addr) (ny cy : Nat) (Y : List Nat)
    (hX : RowIn w .u8 px nx cx X) (hX8 : Bytes8 X) (hY : RowIn w .u8 py ny cy Y) (hY8 : Bytes8 Y) :
    Calls Try.prog 8 #[.slice px nx cx, .slice py ny cy] w (Yes w) := by
  have hcx := hX.cap
  have hcx2 := hX.max
  have hcy := hY.cap
  have hcy2 := hY.max
  obtain ⟨n1, hn1, hn2, hX1⟩ : ∃ n1, n1 ≤ 24 ∧ n1 ≤ nx ∧ RowIn w .u8 px n1 cx (X.take 24) ∧ (nx ≤ 24 → n1 = nx) ∧ (24 < nx → n1 = 24) := by
    rcases Nat.lt_or_ge 24 nx with h | h
    · exact ⟨24, by omega, by omega, hX.take 24 (by omega), by omega, by omega⟩
    · exact ⟨nx, h, Nat.le_refl _, by rw [List.take_of_length_le (by rw [← hX.len]; exact h)]; exact hX, by omega, by omega⟩
  obtain ⟨m1, hm1, hm2, hY1⟩ : ∃ n1, n1 ≤ 24 ∧ n1 ≤ ny ∧ RowIn w .u8 py n1 cy (Y.take 24) ∧ (ny ≤ 24 → n1 = ny) ∧ (24 < ny → n1 = 24) := by
    rcases Nat.lt_or_ge 24 ny with h | h
    · exact ⟨24, by omega, by omega, hY.take 24 (by omega), by omega, by omega⟩
    · exact ⟨ny, h, Nat.le_refl _, by rw [List.take_of_length_le (by rw [← hY.len]; exact h)]; exact hY, by omega, by omega⟩
  have hX2 := hX1.1
  have q1 : (if (24 : Int) < nx then 24 else (nx : Int)) = n1 := by
    split
    · rw [hX1.2.2 (by omega)]; rfl
    · rw [hX1.2.1 (by omega)]
  have hY2 := hY1.1
  have q2 : (if (24 : Int) < ny then 24 else (ny : Int)) = m1 := by
    split
    · rw [hY1.2.2 (by omega)]; rfl
    · rw [hY1.2.1 (by omega)]
  have hc1 : n1 ≤ cx := by omega
  have hc2 : m1 ≤ cy := by omega
  have Q1 := Lib.hid q1
  have Q2 := Lib.hid q2
  have hN6 := Lib.hid (num_cut_lt hX8)
  have hM6 := Lib.hid (num_cut_lt hY8)
  replace hX8 := hX8.take 24
  replace hY8 := hY8.take 24
  generalize X.take 24 = X at *
  generalize Y.take 24 = Y at *
  clear hX1 hY1 q1 q2 hX hY
  go_enter Try.func8, Try.ntmps8
  go_wp2_with fail
  refine (lives_calls _).mono ?_
  rintro e w1 ⟨rfl, hbw⟩
  go_wp2
  refine wp_region_duties (by kernel_rfl) (by kernel_rfl)
    [some (.slice px nx cx), some (.slice px nx cx), some (.int .i64 nx), some (.int .i64 n1), some (.slice px n1 cx), some (.slice py ny cy), some (.slice py ny cy), some (.int .i64 ny), some (.int .i64 m1), some (.slice py m1 cy), some (.slice px n1 cx), some (.slice py m1 cy)]
    [false, false, false, false, false, false, false, false, false, false, false, false] rfl
    (fun _ _ => True)
    (fun _ w' => Below w1.heap.size w1 w')
    (fun _ _ _ => True)
    (fun _ _ _ _ h _ => h) (Below.refl _ _).drew ?_ ?_
  · simp only [Duties, Nat.reduceAdd]
    refine ⟨?_, ?_, ?_, ?_, ?_, ?_, ?_, ?_, ?_, ?_, ?_, ?_, trivial⟩
    all_goals
      intro D sp w' hD hW hdp hbx'
      have q1 := Q1.out
      have q2 := Q2.out
      simp [asked, Region.wanted, yielded, Oper.gives, execOp, Act.eval, Act.put, go_sem, q1, q2, hc1, hc2]
  · intro sp w2 hsp hbr
    clear hsp
    replace hbw := bstep hbw hbr
    simp only [frameOf, Nat.reduceAdd]
    go_simp
    go_wp2_with fail
    refine (num_fit (hX2.below hbw) hX8).mono ?_
    rintro e w3 ⟨pa, na, ca, rfl, hA, hb⟩
    replace hbw := bstep hbw hb
    go_wp2_with fail
    refine (num_fit (hY2.below hbw) hY8).mono ?_
    rintro e w4 ⟨pb, nb, cb, rfl, hB, hb⟩
    replace hbw := bstep hbw hb
    replace hA := hA.below hb
    obtain ⟨x, hx⟩ : ∃ x, numOf X = x := ⟨_, rfl⟩
    obtain ⟨y, hy⟩ : ∃ y, numOf Y = y := ⟨_, rfl⟩
    have hNx := hN6.out
    have hMy := hM6.out
    rw [hx] at hA hNx
    rw [hy] at hB hMy
    have HNX := Lib.hid hx
    have HNY := Lib.hid hy
    clear hb hbr hN6 hM6 hx hy
    obtain ⟨pa', na', ca', he, hA1, _⟩ := hA
    cases he
    obtain ⟨pb', nb', cb', he, hB1, _⟩ := hB
    cases he
    have hA : Fit 6 x (.agg #[.slice pa na ca]) w4 := Fit.of hA1 hNx
    have hB : Fit 6 y (.agg #[.slice pb nb cb]) w4 := Fit.of hB1 hMy
    have hbN : blen x ≤ 192 := lim_blen hNx
    have hbM : blen y ≤ 192 := lim_blen hMy
    clear hA1 hB1
    have hbx := Boxes2.mk2 w4 (.slice pa na ca) (.slice pb nb cb) 26 26
    go_wp2_with fail
    refine (gcd_fit (hA.below hbx.bel) (hB.below hbx.bel) (by omega)).mono ?_
    rintro e w5 ⟨pg, ng, cg, rfl, hG1, hb⟩
    have hgl : Nat.gcd x y < B32 6 := by
      rcases Nat.eq_zero_or_pos x with h0 | h0
      · rw [h0, Nat.gcd_zero_left]; exact hMy
      · exact Nat.lt_of_le_of_lt (Nat.gcd_le_left y h0) hNx
    have hG : Fit 6 (Nat.gcd x y) (.agg #[.slice pg ng cg]) w5 := Fit.of hG1 hgl
    have HG := Lib.hid hG
    replace hbx := hbx.later hb
    have hbg := Box1.mk1 w5 (.slice pg ng cg) 26
    have hbx1 := hbx.later hbg.bel
    have hbw0 : Below w.heap.size w (w5.alloc (.cells #[.slice pg ng cg] 26)) := bstep hbw hbx1.bel
    clear hG hG1 hb hgl
    go_wp2
    refine wp_region_duties (by kernel_rfl) (by kernel_rfl)
      [some (.agg #[.slice pg ng cg]), some (.slice px n1 cx), none, some (.slice py m1 cy), none, none, none, some (.bool false)]
      [false, false, true, false, true, true, true, false] rfl
      (fun w1 w2 => Below w1.heap.size w1 w2)
      (fun _ w' => Below w.heap.size w w' ∧ Boxes2 w4 w' (.slice pa na ca) (.slice pb nb cb) ∧ Box1 w5 w' (.slice pg ng cg))
      (fun i v w' => match i with
          | 2 => RBits x v w'
          | 4 => RBits y v w'
          | 5 => RBits (Nat.gcd x y) v w'
          | 6 => v = .bool true
          | _ => True)
      ?_ ⟨hbw0.trans (Below.refl _ _).drew, hbx1.below (Below.refl _ _).drew hbx1.size, hbg.below (Below.refl _ _).drew hbg.size⟩ ?_ ?_
    · intro i v w1 w2 hf hb
      split at hf
      · exact hf.below hb
      · exact hf.below hb
      · exact hf.below hb
      · exact hf
      · trivial
    · simp only [Duties, Nat.reduceAdd]
      refine ⟨?_, ?_, ?_, ?_, ?_, ?_, ?_, ?_, trivial⟩
      case refine_3 =>
        intro D sp w' hD hW hdp hbx'
        (with_reducible refine asked_call (w1 := w') (f := 22) (args := #[.slice px n1 cx]) ?_ ?_ ?_)
        · simp [Region.wanted, yielded, Act.put, go_sem]
        · simp [Act.eval, Act.put, go_sem]
        · refine ((ref_fit' (hX2.below hbx'.1) hX8 HNX.out)).mono ?_
          rintro e w5 ⟨u, rfl, hu, hb⟩
          exact ⟨u, rfl, hb, hu, ⟨bstep hbx'.1 hb, hbx'.2.1.later hb, hbx'.2.2.later hb⟩⟩
      case refine_5 =>
        intro D sp w' hD hW hdp hbx'
        (with_reducible refine asked_call (w1 := w') (f := 22) (args := #[.slice py m1 cy]) ?_ ?_ ?_)
        · simp [Region.wanted, yielded, Act.put, go_sem]
        · simp [Act.eval, Act.put, go_sem]
        · refine ((ref_fit' (hY2.below hbx'.1) hY8 HNY.out)).mono ?_
          rintro e w5 ⟨u, rfl, hu, hb⟩
          exact ⟨u, rfl, hb, hu, ⟨bstep hbx'.1 hb, hbx'.2.1.later hb, hbx'.2.2.later hb⟩⟩
      case refine_6 =>
        intro D sp w' hD hW hdp hbx'
        have k2 : RBits x (sp 2) w' := (hdp 2 (List.mem_of_elem_eq_true (by kernel_rfl))).2
        have k4 : RBits y (sp 4) w' := (hdp 4 (List.mem_of_elem_eq_true (by kernel_rfl))).2
        (with_reducible refine asked_call (w1 := w') (f := 38) (args := #[sp 2, sp 4]) ?_ ?_ ?_)
        · simp [Region.wanted, yielded, Act.put, go_sem]
        · simp [Act.eval, Act.put, go_sem]
        · refine ((rgcd_fit k2 k4 (by omega) (by omega))).mono ?_
          rintro e w5 ⟨u, rfl, hu, hb⟩
          exact ⟨u, rfl, hb, hu, ⟨bstep hbx'.1 hb, hbx'.2.1.later hb, hbx'.2.2.later hb⟩⟩
      case refine_7 =>
        intro D sp w' hD hW hdp hbx'
        have k5 : RBits (Nat.gcd x y) (sp 5) w' := (hdp 5 (List.mem_of_elem_eq_true (by kernel_rfl))).2
        (with_reducible refine asked_call (w1 := w') (f := 16) (args := #[.agg #[.slice pg ng cg], sp 5]) ?_ ?_ ?_)
        · simp [Region.wanted, yielded, Act.put, go_sem]
        · simp [Act.eval, Act.put, go_sem]
        · refine ((same_fit' (HG.out.below hbx'.2.2.bel) k5 (by omega))).mono ?_
          rintro e w5 ⟨u, rfl, hu, hb⟩
          exact ⟨u, rfl, hb, hu, ⟨bstep hbx'.1 hb, hbx'.2.1.later hb, hbx'.2.2.later hb⟩⟩
      case refine_8 =>
        intro D sp w' hD hW hdp hbx'
        have k6 : (sp 6) = .bool true := (hdp 6 (List.mem_of_elem_eq_true (by kernel_rfl))).2
        simp [asked, Region.wanted, yielded, Oper.gives, execOp, Act.eval, Act.put, go_sem, k6]
      all_goals
        intro D sp w' hD hW hdp hbx'
        have c2 := hbx'.2.2.c0
        simp [asked, Region.wanted, yielded, Oper.gives, execOp, Act.eval, Act.put, go_sem, c2]
    · intro sp w6 hsp hbx'
      clear hsp
      simp only [frameOf, Nat.reduceAdd]
      generalize sp 2 = u2 at *
      generalize sp 4 = u4 at *
      generalize sp 5 = u5 at *
      generalize sp 6 = u6 at *
      go_simp
      obtain ⟨hbw6, hbx6, hbg6⟩ := hbx'
      have d2 := hbg6.c0
      by_cases hg0 : Nat.gcd x y = 0
      · have hx0 : x = 0 := (Nat.gcd_eq_zero_iff.1 hg0).1
        have hy0 : y = 0 := (Nat.gcd_eq_zero_iff.1 hg0).2
        have HX0 := Lib.hid hx0
        have HY0 := Lib.hid hy0
        have HG0 := Lib.hid hg0
        clear hx0 hy0 hg0
        go_wp2_with fail
        refine (zero_fitB (HG.out.below hbg6.bel) (t := true) (decide_eq_true HG0.out)).mono ?_
        rintro e w7 ⟨_, rfl, rfl, hb⟩
        replace hbx6 := hbx6.later hb
        have d3 := hbx6.c0
        clear hb d2
        go_wp2_with fail
        refine (zero_fitB (hA.below hbx6.bel) (t := true) (decide_eq_true HX0.out)).mono ?_
        rintro e w8 ⟨_, rfl, rfl, hb⟩
        replace hbx6 := hbx6.later hb
        have d4 := hbx6.c1
        clear hb d3
        go_wp2_with fail
        refine (zero_fitB (hB.below hbx6.bel) (t := true) (decide_eq_true HY0.out)).mono ?_
        rintro e w9 ⟨_, rfl, rfl, hb⟩
        go_wp2
        go_ret
        exact ⟨rfl, bstep (bstep hbw hbx6.bel) hb⟩
      · have HG0 : Hid (Nat.gcd x y ≠ 0) := Lib.hid hg0
        have HXG : Hid (x % Nat.gcd x y = 0) := Lib.hid (Nat.mod_eq_zero_of_dvd (Nat.gcd_dvd_left x y))
        have HYG : Hid (y % Nat.gcd x y = 0) := Lib.hid (Nat.mod_eq_zero_of_dvd (Nat.gcd_dvd_right x y))
        clear hg0
        go_wp2_with fail
        refine (zero_fitB (HG.out.below hbg6.bel) (t := false) (decide_eq_false HG0.out)).mono ?_
        rintro e w7 ⟨_, rfl, rfl, hb⟩
        replace hbx6 := hbx6.later hb
        replace hbg6 := hbg6.later hb
        have d3 := hbx6.c0
        have d4 := hbg6.c0
        clear hb d2
        go_wp2_with fail
        refine (div_fit (hA.below hbx6.bel) (HG.out.below hbg6.bel) (by omega) (by omega)).mono ?_
        rintro e w8 ⟨z, rfl, ⟨vq, vr, rfl, hQ, hR⟩, hb⟩
        rw [if_neg HG0.out, HXG.out] at hR
        rw [if_neg HG0.out]
        replace hbx6 := hbx6.later hb
        replace hbg6 := hbg6.later hb
        clear hb d3 d4
        obtain ⟨p7, n7, c7, rfl, _, _⟩ := hQ
        obtain ⟨p8, n8, c8, rfl, hR1, hR2⟩ := hR
        have hR : Fit 6 0 (.agg #[.slice p8 n8 c8]) w8 := ⟨p8, n8, c8, rfl, hR1, hR2⟩
        have hbz := Boxes2.mk2 w8 (.slice p7 n7 c7) (.slice p8 n8 c8) 26 26
        replace hbx6 := hbx6.later hbz.bel
        replace hbg6 := hbg6.later hbz.bel
        have d3 := hbx6.c1
        have d4 := hbg6.c0
        clear hR1 hR2
        go_wp2_with fail
        refine (div_fit (hB.below hbx6.bel) (HG.out.below hbg6.bel) (by omega) (by omega)).mono ?_
        rintro e w9 ⟨z, rfl, ⟨vq, vr, rfl, hQ, hS⟩, hb⟩
        rw [if_neg HG0.out, HYG.out] at hS
        rw [if_neg HG0.out]
        replace hbx6 := hbx6.later hb
        replace hbz := hbz.later hb
        clear hb d3 d4 hbg6
        obtain ⟨p5, n5, c5, rfl, _, _⟩ := hQ
        obtain ⟨p6, n6, c6, rfl, hS1, hS2⟩ := hS
        have hS : Fit 6 0 (.agg #[.slice p6 n6 c6]) w9 := ⟨p6, n6, c6, rfl, hS1, hS2⟩
        have hby := Boxes2.mk2 w9 (.slice p5 n5 c5) (.slice p6 n6 c6) 26 26
        replace hbx6 := hbx6.later hby.bel
        replace hbz := hbz.later hby.bel
        have d3 := hbz.c1
        clear hS1 hS2
        go_wp2_with fail
        refine (zero_fitB (hR.below hbz.bel) (t := true) (by decide)).mono ?_
        rintro e w10 ⟨_, rfl, rfl, hb⟩
        replace hbx6 := hbx6.later hb
        replace hby := hby.later hb
        have d4 := hby.c1
        clear hb d3
        go_wp2_with fail
        refine (zero_fitB (hS.below hby.bel) (t := true) (by decide)).mono ?_
        rintro e w11 ⟨_, rfl, rfl, hb⟩
        go_wp2
        go_ret
        exact ⟨rfl, bstep (bstep hbw hbx6.bel) hb⟩

end Go.Proofs.Ytoleblefdmdbjaa
