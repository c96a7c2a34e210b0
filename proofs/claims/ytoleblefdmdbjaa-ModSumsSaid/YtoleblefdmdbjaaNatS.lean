/- The chapter's example lives. -/
import Derived.Test.YtoleblefdmdbjaaNatR
namespace Go.Proofs.Ytoleblefdmdbjaa
open Go Go.RowKit Go.Proofs.Ytoleblefdmdbjaa.Flow

theorem new_seven (w : World) : Calls Try.prog 19 #[.int .u64 7] w (GivesNat 7 w) := new_calls 7 w (by decide)
theorem new_two (w : World) : Calls Try.prog 19 #[.int .u64 2] w (GivesNat 2 w) := new_calls 2 w (by decide)
theorem small_three (w : World) : Calls Try.prog 23 #[.int .u64 3] w (GivesBits 3 w) := small_calls 3 w (by decide)
theorem small_one (w : World) : Calls Try.prog 23 #[.int .u64 1] w (GivesBits 1 w) := small_calls 1 w (by decide)

set_option maxHeartbeats 1000000 in
theorem lives_calls (w : World) : Calls Try.prog 13 #[] w fun e w' => e = .returned (.bool true) ∧ Below w.heap.size w w' := by
  go_enter Try.func13, Try.ntmps13
  go_wp2_with fail
  refine (new_seven _).mono ?_
  rintro e w1 ⟨pa, na, ca, rfl, hA, hb1, _⟩
  have ha1 : na ≤ 1 := hA.len_le (k := 1) (by decide)
  go_wp2_with fail
  refine (new_two _).mono ?_
  rintro e w2 ⟨pb, nb, cb, rfl, hB, hb2, _⟩
  have hb1' : nb ≤ 1 := hB.len_le (k := 1) (by decide)
  go_wp2_with fail
  refine (div_short w2 pa na ca 7 pb nb cb 2 (hA.below hb2) hB (by omega) (by omega) (.inl hb1')).mono ?_
  rintro e w3 ⟨pq, nq, cq, pr, nr, cr, rfl, hQ, hR, hb3, _, _⟩
  rw [if_neg (by decide)] at hR
  rw [if_neg (by decide)]
  have hbw : Below w.heap.size w w3 := (hb1.trans (hb2.mono hb1.size)).trans (hb3.mono (Nat.le_trans hb1.size hb2.size))
  have hq1 : nq ≤ 1 := hQ.len_le (k := 1) (by decide)
  have hr1 : nr ≤ 1 := hR.len_le (k := 1) (by decide)
  have HQ := Lib.hid hQ
  have HR := Lib.hid hR
  clear hQ hR hA hB hb1 hb2 hb3
  go_wp2
  have hbx := Boxes2.mk2 w3 (.slice pq nq cq) (.slice pr nr cr) 26 26
  refine wp_region_duties (by kernel_rfl) (by kernel_rfl)
    [some (.int .i64 0), some (.bool true), some (.bool true), some (.agg #[.slice pq nq cq]), none, none, some (.bool true), some (.bool true), some (.agg #[.slice pr nr cr]), none, none, some (.bool true), some (.bool true)]
    [false, false, false, false, true, true, false, false, false, true, true, false, false] rfl
    (fun w1 w2 => Below w1.heap.size w1 w2)
    (fun _ w' => Boxes2 w3 w' (.slice pq nq cq) (.slice pr nr cr))
    (fun i v w' => match i with
      | 4 => ∃ p n c, v = .slice p n c ∧ BitsAt w' p n c 3
      | 9 => ∃ p n c, v = .slice p n c ∧ BitsAt w' p n c 1
      | _ => v = .bool true)
    ?_ (hbx.below (Below.refl _ _).drew (Nat.le_refl _)) ?_ ?_
  · intro i v w1 w2 hf hb
    split at hf
    · obtain ⟨p, n, c, h1, h2⟩ := hf; exact ⟨p, n, c, h1, h2.below hb⟩
    · obtain ⟨p, n, c, h1, h2⟩ := hf; exact ⟨p, n, c, h1, h2.below hb⟩
    · exact hf
  · simp only [Duties, Nat.reduceAdd]
    refine ⟨?_, ?_, ?_, ?_, ?_, ?_, ?_, ?_, ?_, ?_, ?_, ?_, ?_, trivial⟩
    case refine_5 =>
      intro D sp w' hD hW hdp hbx'
      (with_reducible refine asked_call (w1 := w') (f := 23) (args := #[.int .u64 3]) ?_ ?_ ?_)
      · simp [Region.wanted, yielded, Act.put, go_sem]
      · simp [Act.eval, Act.put, go_sem]
      · refine (small_three w').mono ?_
        rintro e w5 ⟨p, n, c, rfl, hp, hb, _⟩
        exact ⟨_, rfl, hb, ⟨p, n, c, rfl, hp⟩, hbx'.later hb⟩
    case refine_6 =>
      intro D sp w' hD hW hdp hbx'
      have hx : ∃ p n c, sp 4 = .slice p n c ∧ BitsAt w' p n c 3 := (hdp 4 (List.mem_of_elem_eq_true (by kernel_rfl))).2
      (with_reducible refine Exists.elim hx fun p hx1 => ?_)
      (with_reducible refine Exists.elim hx1 fun n hx2 => ?_)
      (with_reducible refine Exists.elim hx2 fun c hx3 => ?_)
      have k1 := hx3.1
      have k2 := hx3.2
      (with_reducible refine asked_call (w1 := w') (f := 16) (args := #[.agg #[.slice pq nq cq], .slice p n c]) ?_ ?_ ?_)
      · simp [Region.wanted, yielded, Act.put, go_sem]
      · simp [Act.eval, Act.put, go_sem, k1]
      · refine (same_calls w' pq nq cq 3 p n c 3 (HQ.out.below hbx'.bel) (by omega) (Nat.le_trans ((blen_le 3 2).2 (by decide)) (by decide)) k2 rfl).mono ?_
        rintro e w5 ⟨rfl, hb⟩
        exact ⟨_, rfl, hb, rfl, hbx'.later hb⟩
    case refine_10 =>
      intro D sp w' hD hW hdp hbx'
      (with_reducible refine asked_call (w1 := w') (f := 23) (args := #[.int .u64 1]) ?_ ?_ ?_)
      · simp [Region.wanted, yielded, Act.put, go_sem]
      · simp [Act.eval, Act.put, go_sem]
      · refine (small_one w').mono ?_
        rintro e w5 ⟨p, n, c, rfl, hp, hb, _⟩
        exact ⟨_, rfl, hb, ⟨p, n, c, rfl, hp⟩, hbx'.later hb⟩
    case refine_11 =>
      intro D sp w' hD hW hdp hbx'
      have hx : ∃ p n c, sp 9 = .slice p n c ∧ BitsAt w' p n c 1 := (hdp 9 (List.mem_of_elem_eq_true (by kernel_rfl))).2
      (with_reducible refine Exists.elim hx fun p hx1 => ?_)
      (with_reducible refine Exists.elim hx1 fun n hx2 => ?_)
      (with_reducible refine Exists.elim hx2 fun c hx3 => ?_)
      have k1 := hx3.1
      have k2 := hx3.2
      (with_reducible refine asked_call (w1 := w') (f := 16) (args := #[.agg #[.slice pr nr cr], .slice p n c]) ?_ ?_ ?_)
      · simp [Region.wanted, yielded, Act.put, go_sem]
      · simp [Act.eval, Act.put, go_sem, k1]
      · refine (same_calls w' pr nr cr 1 p n c 1 (HR.out.below hbx'.bel) (by omega) (Nat.le_trans ((blen_le 1 1).2 (by decide)) (by decide)) k2 rfl).mono ?_
        rintro e w5 ⟨rfl, hb⟩
        exact ⟨_, rfl, hb, rfl, hbx'.later hb⟩
    case refine_7 =>
      intro D sp w' hD hW hdp hbx'
      have k1 : sp 5 = .bool true := (hdp 5 (List.mem_of_elem_eq_true (by kernel_rfl))).2
      simp [asked, Region.wanted, Oper.gives, execOp, Act.eval, Act.put, go_sem, k1]
    case refine_12 =>
      intro D sp w' hD hW hdp hbx'
      have k1 : sp 10 = .bool true := (hdp 10 (List.mem_of_elem_eq_true (by kernel_rfl))).2
      simp [asked, Region.wanted, Oper.gives, execOp, Act.eval, Act.put, go_sem, k1]
    all_goals
      intro D sp w' hD hW hdp hbx'
      have c0 := hbx'.c0
      have c1 := hbx'.c1
      simp [asked, Region.wanted, yielded, Oper.gives, execOp, Act.eval, Act.put, go_sem, c0, c1]
  · intro sp w' hsp hbx'
    clear hsp
    simp only [frameOf, Nat.reduceAdd]
    generalize sp 4 = u4 at *
    generalize sp 5 = u5 at *
    generalize sp 9 = u9 at *
    generalize sp 10 = u10 at *
    go_simp
    go_wp2
    go_ret
    exact ⟨rfl, hbw.trans (hbx'.bel.mono hbw.size)⟩

end Go.Proofs.Ytoleblefdmdbjaa
