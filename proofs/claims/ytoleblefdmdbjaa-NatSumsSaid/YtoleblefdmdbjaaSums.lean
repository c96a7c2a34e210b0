/- The law of sums and differences. -/
import Derived.Test.YtoleblefdmdbjaaSmall
namespace Go.Proofs.Ytoleblefdmdbjaa
open Go Go.RowKit Go.Proofs.Ytoleblefdmdbjaa.Flow

theorem rcmp_fitK {w : World} {q1 q2 : Option Addr} {m1 d1 m2 d2 N M : Nat} {K : Int} (h : BitsAt w q1 m1 d1 N) (k : BitsAt w q2 m2 d2 M) (hN : m1 ≤ 1000000) (hM : m2 ≤ 1000000) (hK : cmpI N M = K) :
    Calls Try.prog 25 #[.slice q1 m1 d1, .slice q2 m2 d2] w fun en w' => ∃ x, en = .returned x ∧ x = .int .i64 K ∧ Below w.heap.size w w' := by
  subst hK
  exact rcmp_fit (RBits.of h) (RBits.of k) (by rw [← bits_len h]; exact hN) (by rw [← bits_len k]; exact hM)

theorem zero_fitT {w : World} {v : Value} {e N : Nat} (h : Fit e N v w) (hz : N = 0) :
    Calls Try.prog 26 #[v] w fun en w' => ∃ x, en = .returned x ∧ x = .bool true ∧ Below w.heap.size w w' := by
  refine (zero_fit h).mono ?_
  rintro en w' ⟨x, rfl, rfl, hb⟩
  exact ⟨_, rfl, by rw [decide_eq_true hz], hb⟩

set_option maxHeartbeats 8000000 in
set_option maxRecDepth 1000000 in
theorem sums_law (w : World) (px : Option Addr) (nx cx : Nat) (X : List Nat) (py : Option Addr) (ny cy : Nat) (Y : List Nat)
    (hX : RowIn w .u8 px nx cx X) (hX8 : Bytes8 X) (hY : RowIn w .u8 py ny cy Y) (hY8 : Bytes8 Y) :
    Calls Try.prog 5 #[.slice px nx cx, .slice py ny cy] w (Yes w) := by
  go_enter Try.func5, Try.ntmps5
  go_wp2_with fail
  refine (lives_calls _).mono ?_
  rintro e w1 ⟨rfl, hbw⟩
  go_wp2_with fail
  refine (num_fit (hX.below hbw) hX8).mono ?_
  rintro e w2 ⟨pa, na, ca, rfl, hA, hb⟩
  replace hbw := bstep hbw hb
  go_wp2_with fail
  refine (num_fit (hY.below hbw) hY8).mono ?_
  rintro e w3 ⟨pb, nb, cb, rfl, hB, hb⟩
  replace hbw := bstep hbw hb
  replace hA := hA.below hb
  go_wp2_with fail
  refine (ref_fit (hX.below hbw) hX8).mono ?_
  rintro e w4 ⟨q1, m1, d1, rfl, hP, hb⟩
  replace hbw := bstep hbw hb
  replace hA := hA.below hb
  replace hB := hB.below hb
  go_wp2_with fail
  refine (ref_fit (hY.below hbw) hY8).mono ?_
  rintro e w5 ⟨q2, m2, d2, rfl, hQ, hb⟩
  replace hbw := bstep hbw hb
  replace hA := hA.below hb
  replace hB := hB.below hb
  replace hP := hP.below hb
  clear hb hX hY
  generalize numOf X = N at *
  generalize numOf Y = M at *
  have hbN : blen N ≤ 384 := lim_blen hA.lim
  have hbM : blen M ≤ 384 := lim_blen hB.lim
  have hm1 : m1 ≤ 384 := by rw [bits_len hP]; exact hbN
  have hm2 : m2 ≤ 384 := by rw [bits_len hQ]; exact hbM
  obtain ⟨K, hK⟩ : ∃ K, cmpI N M = K := ⟨_, rfl⟩
  have HK := Lib.hid hK
  clear hK
  have hbx0 := Boxes2.mk2 w5 (.slice pa na ca) (.slice pb nb cb) 26 26
  go_wp2_with fail
  refine (sub_fit (hA.below hbx0.bel) (hB.below hbx0.bel) (by omega) (by omega)).mono ?_
  rintro e w6 ⟨v, rfl, hD, hb⟩
  obtain ⟨pd, nd, cd, rfl, hD1, hD2⟩ := hD
  have hDf : Fit 12 (N - M) (.agg #[.slice pd nd cd]) w6 := ⟨pd, nd, cd, rfl, hD1, hD2⟩
  clear hD1 hD2
  by_cases hle : M ≤ N
  · replace hle := Lib.hid hle
    rw [decide_eq_true hle.out]
    have hK1 : (0 : Int) ≤ K := by rw [← HK.out]; rcases Nat.lt_or_ge M N with h1 | h1
                                   · rw [cmpI_gt h1]; omega
                                   · rw [show N = M from Nat.le_antisymm h1 hle.out, cmpI_eq]; omega
    have hbx1 := hbx0.later hb
    have hbxg : Boxes2 w5 (w6.alloc (.cells #[.slice pd nd cd] 26)) (.slice pa na ca) (.slice pb nb cb) ∧ Box1 w6 (w6.alloc (.cells #[.slice pd nd cd] 26)) (.slice pd nd cd) := ⟨hbx1.later ((Below.refl _ _).alloc (Nat.le_refl _) _), Box1.mk1 _ _ _⟩
    go_wp2
    refine wp_region_duties (by kernel_rfl) (by kernel_rfl)
      [some (.bool true), some (.slice q1 m1 d1), some (.slice q2 m2 d2), none, some (.bool true), some (.bool false), some (.bool false), some (.bool true), some (.bool false), some (.bool false), some undef, some undef, some undef, some (.bool false), some (.bool false), some (.bool false), some (.bool true), some (.bool true), some (.agg #[.slice pd nd cd]), some (.slice q1 m1 d1), some (.slice q2 m2 d2), none, none, some (.bool false), some (.bool false), some (.bool false)]
      [false, false, false, true, false, false, false, false, false, false, false, false, false, false, false, false, false, false, false, false, false, true, true, false, false, false] rfl
      (fun w1 w2 => Below w1.heap.size w1 w2)
      (fun _ w' => Boxes2 w5 w' (.slice pa na ca) (.slice pb nb cb) ∧ Box1 w6 w' (.slice pd nd cd))
      (fun i v w' => match i with
          | 3 => v = .int .i64 K
          | 21 => RBits (N - M) v w'
          | 22 => v = .bool true
          | _ => True)
      ?_ ⟨hbxg.1.below (Below.refl _ _).drew hbxg.1.size, hbxg.2.below (Below.refl _ _).drew hbxg.2.size⟩ ?_ ?_
    · intro i v w1 w2 hf hb
      split at hf
      · exact hf
      · exact hf.below hb
      · exact hf
      · trivial
    · simp only [Duties, Nat.reduceAdd]
      refine ⟨?_, ?_, ?_, ?_, ?_, ?_, ?_, ?_, ?_, ?_, ?_, ?_, ?_, ?_, ?_, ?_, ?_, ?_, ?_, ?_, ?_, ?_, ?_, ?_, ?_, ?_, trivial⟩
      case refine_4 =>
        intro D sp w' hD hW hdp hbx'
        (with_reducible refine asked_call (w1 := w') (f := 25) (args := #[.slice q1 m1 d1, .slice q2 m2 d2]) ?_ ?_ ?_)
        · simp [Region.wanted, yielded, Act.put, go_sem]
        · simp [Act.eval, Act.put, go_sem]
        · refine ((rcmp_fitK (hP.below hbx'.1.bel) (hQ.below hbx'.1.bel) (by omega) (by omega) HK.out)).mono ?_
          rintro e w5 ⟨u, rfl, hu, hb⟩
          exact ⟨u, rfl, hb, hu, ⟨hbx'.1.later hb, hbx'.2.later hb⟩⟩
      case refine_22 =>
        intro D sp w' hD hW hdp hbx'
        (with_reducible refine asked_call (w1 := w') (f := 27) (args := #[.slice q1 m1 d1, .slice q2 m2 d2]) ?_ ?_ ?_)
        · simp [Region.wanted, yielded, Act.put, go_sem]
        · simp [Act.eval, Act.put, go_sem]
        · refine ((rsub_fit (RBits.of (hP.below hbx'.1.bel)) (RBits.of (hQ.below hbx'.1.bel)) (by omega) hle.out)).mono ?_
          rintro e w5 ⟨u, rfl, hu, hb⟩
          exact ⟨u, rfl, hb, hu, ⟨hbx'.1.later hb, hbx'.2.later hb⟩⟩
      case refine_23 =>
        intro D sp w' hD hW hdp hbx'
        have k21 : RBits (N - M) (sp 21) w' := (hdp 21 (List.mem_of_elem_eq_true (by kernel_rfl))).2
        (with_reducible refine asked_call (w1 := w') (f := 16) (args := #[.agg #[.slice pd nd cd], sp 21]) ?_ ?_ ?_)
        · simp [Region.wanted, yielded, Act.put, go_sem]
        · simp [Act.eval, Act.put, go_sem]
        · refine ((same_fit' (hDf.below hbx'.2.bel) k21 (by omega))).mono ?_
          rintro e w5 ⟨u, rfl, hu, hb⟩
          exact ⟨u, rfl, hb, hu, ⟨hbx'.1.later hb, hbx'.2.later hb⟩⟩
      case refine_5 =>
        intro D sp w' hD hW hdp hbx'
        have k3 : (sp 3) = .int .i64 K := (hdp 3 (List.mem_of_elem_eq_true (by kernel_rfl))).2
        simp [asked, Region.wanted, yielded, Oper.gives, execOp, Act.eval, Act.put, go_sem, k3, hK1]
      case refine_24 =>
        intro D sp w' hD hW hdp hbx'
        have k22 : (sp 22) = .bool true := (hdp 22 (List.mem_of_elem_eq_true (by kernel_rfl))).2
        simp [asked, Region.wanted, yielded, Oper.gives, execOp, Act.eval, Act.put, go_sem, k22]
      all_goals
        intro D sp w' hD hW hdp hbx'
        have c2 := hbx'.2.c0
        simp [asked, Region.wanted, yielded, Oper.gives, execOp, Act.eval, Act.put, go_sem, c2]
    · intro sp w' hsp hbx'
      clear hsp
      simp only [frameOf, Nat.reduceAdd]
      generalize sp 3 = u3 at *
      generalize sp 21 = u21 at *
      generalize sp 22 = u22 at *
      have hbx := hbx'.1
      clear hbx'
      go_simp
      have c0 := hbx.c0
      have c1 := hbx.c1
      go_wp2_with fail
      refine (add_fit (hA.below hbx.bel) (hB.below hbx.bel) (by omega) (by omega)).mono ?_
      rintro e w7 ⟨x1, rfl, hS, hb⟩
      replace hbx := hbx.later hb
      go_wp2_with fail
      refine (radd_fit (RBits.of (hP.below hbx.bel)) (RBits.of (hQ.below hbx.bel)) (by omega) (by omega)).mono ?_
      rintro e w8 ⟨x2, rfl, hT, hb⟩
      replace hbx := hbx.later hb
      replace hS := hS.below hb
      go_wp2_with fail
      refine (same_fit' hS hT (by omega)).mono ?_
      rintro e w9 ⟨x3, rfl, rfl, hb⟩
      replace hbx := hbx.later hb
      have d0 := hbx.c0
      have d1 := hbx.c1
      go_wp2_with fail
      refine (same_fit (hA.below hbx.bel) (hP.below hbx.bel) (by omega)).mono ?_
      rintro e w10 ⟨x4, rfl, rfl, hb⟩
      replace hbx := hbx.later hb
      have e0 := hbx.c0
      have e1 := hbx.c1
      go_wp2_with fail
      refine (same_fit (hB.below hbx.bel) (hQ.below hbx.bel) (by omega)).mono ?_
      rintro e w11 ⟨x5, rfl, rfl, hb⟩
      replace hbx := hbx.later hb
      go_wp2
      go_ret
      exact ⟨rfl, bstep hbw hbx.bel⟩
  · replace hle := Lib.hid hle
    rw [decide_eq_false hle.out]
    have hz : Hid (N - M = 0) := Lib.hid (by have := hle.out; omega)
    have hK1 : ¬ (0 : Int) ≤ K := by rw [← HK.out, cmpI_lt (by have := hle.out; omega)]; omega
    have hbx1 := hbx0.later hb
    have hbxg : Boxes2 w5 (w6.alloc (.cells #[.slice pd nd cd] 26)) (.slice pa na ca) (.slice pb nb cb) ∧ Box1 w6 (w6.alloc (.cells #[.slice pd nd cd] 26)) (.slice pd nd cd) := ⟨hbx1.later ((Below.refl _ _).alloc (Nat.le_refl _) _), Box1.mk1 _ _ _⟩
    go_wp2
    refine wp_region_duties (by kernel_rfl) (by kernel_rfl)
      [some (.bool false), some (.slice q1 m1 d1), some (.slice q2 m2 d2), none, some (.bool false), some (.bool false), some (.bool false), some (.bool false), some (.bool true), some (.bool true), some (.agg #[.slice pd nd cd]), none, some (.bool false), some (.bool false), some (.bool false), some (.bool false), some (.bool false), some (.bool false), some undef, some undef, some undef, some undef, some undef, some undef, some (.bool false), some (.bool false)]
      [false, false, false, true, false, false, false, false, false, false, false, true, false, false, false, false, false, false, false, false, false, false, false, false, false, false] rfl
      (fun w1 w2 => Below w1.heap.size w1 w2)
      (fun _ w' => Boxes2 w5 w' (.slice pa na ca) (.slice pb nb cb) ∧ Box1 w6 w' (.slice pd nd cd))
      (fun i v w' => match i with
          | 3 => v = .int .i64 K
          | 11 => v = .bool true
          | _ => True)
      ?_ ⟨hbxg.1.below (Below.refl _ _).drew hbxg.1.size, hbxg.2.below (Below.refl _ _).drew hbxg.2.size⟩ ?_ ?_
    · intro i v w1 w2 hf hb
      split at hf
      · exact hf
      · exact hf
      · trivial
    · simp only [Duties, Nat.reduceAdd]
      refine ⟨?_, ?_, ?_, ?_, ?_, ?_, ?_, ?_, ?_, ?_, ?_, ?_, ?_, ?_, ?_, ?_, ?_, ?_, ?_, ?_, ?_, ?_, ?_, ?_, ?_, ?_, trivial⟩
      case refine_4 =>
        intro D sp w' hD hW hdp hbx'
        (with_reducible refine asked_call (w1 := w') (f := 25) (args := #[.slice q1 m1 d1, .slice q2 m2 d2]) ?_ ?_ ?_)
        · simp [Region.wanted, yielded, Act.put, go_sem]
        · simp [Act.eval, Act.put, go_sem]
        · refine ((rcmp_fitK (hP.below hbx'.1.bel) (hQ.below hbx'.1.bel) (by omega) (by omega) HK.out)).mono ?_
          rintro e w5 ⟨u, rfl, hu, hb⟩
          exact ⟨u, rfl, hb, hu, ⟨hbx'.1.later hb, hbx'.2.later hb⟩⟩
      case refine_12 =>
        intro D sp w' hD hW hdp hbx'
        (with_reducible refine asked_call (w1 := w') (f := 26) (args := #[.agg #[.slice pd nd cd]]) ?_ ?_ ?_)
        · simp [Region.wanted, yielded, Act.put, go_sem]
        · simp [Act.eval, Act.put, go_sem]
        · refine ((zero_fitT (hDf.below hbx'.2.bel) hz.out)).mono ?_
          rintro e w5 ⟨u, rfl, hu, hb⟩
          exact ⟨u, rfl, hb, hu, ⟨hbx'.1.later hb, hbx'.2.later hb⟩⟩
      case refine_5 =>
        intro D sp w' hD hW hdp hbx'
        have k3 : (sp 3) = .int .i64 K := (hdp 3 (List.mem_of_elem_eq_true (by kernel_rfl))).2
        simp [asked, Region.wanted, yielded, Oper.gives, execOp, Act.eval, Act.put, go_sem, k3, hK1]
      case refine_13 =>
        intro D sp w' hD hW hdp hbx'
        have k11 : (sp 11) = .bool true := (hdp 11 (List.mem_of_elem_eq_true (by kernel_rfl))).2
        simp [asked, Region.wanted, yielded, Oper.gives, execOp, Act.eval, Act.put, go_sem, k11]
      all_goals
        intro D sp w' hD hW hdp hbx'
        have c2 := hbx'.2.c0
        simp [asked, Region.wanted, yielded, Oper.gives, execOp, Act.eval, Act.put, go_sem, c2]
    · intro sp w' hsp hbx'
      clear hsp
      simp only [frameOf, Nat.reduceAdd]
      generalize sp 3 = u3 at *
      generalize sp 11 = u11 at *
      have hbx := hbx'.1
      clear hbx'
      go_simp
      have c0 := hbx.c0
      have c1 := hbx.c1
      go_wp2_with fail
      refine (add_fit (hA.below hbx.bel) (hB.below hbx.bel) (by omega) (by omega)).mono ?_
      rintro e w7 ⟨x1, rfl, hS, hb⟩
      replace hbx := hbx.later hb
      go_wp2_with fail
      refine (radd_fit (RBits.of (hP.below hbx.bel)) (RBits.of (hQ.below hbx.bel)) (by omega) (by omega)).mono ?_
      rintro e w8 ⟨x2, rfl, hT, hb⟩
      replace hbx := hbx.later hb
      replace hS := hS.below hb
      go_wp2_with fail
      refine (same_fit' hS hT (by omega)).mono ?_
      rintro e w9 ⟨x3, rfl, rfl, hb⟩
      replace hbx := hbx.later hb
      have d0 := hbx.c0
      have d1 := hbx.c1
      go_wp2_with fail
      refine (same_fit (hA.below hbx.bel) (hP.below hbx.bel) (by omega)).mono ?_
      rintro e w10 ⟨x4, rfl, rfl, hb⟩
      replace hbx := hbx.later hb
      have e0 := hbx.c0
      have e1 := hbx.c1
      go_wp2_with fail
      refine (same_fit (hB.below hbx.bel) (hQ.below hbx.bel) (by omega)).mono ?_
      rintro e w11 ⟨x5, rfl, rfl, hb⟩
      replace hbx := hbx.later hb
      go_wp2
      go_ret
      exact ⟨rfl, bstep hbw hbx.bel⟩

end Go.Proofs.Ytoleblefdmdbjaa
