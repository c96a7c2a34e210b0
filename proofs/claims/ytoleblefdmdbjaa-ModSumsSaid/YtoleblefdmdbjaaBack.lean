/- The law of quotients and rests. -/
import Derived.Test.YtoleblefdmdbjaaFit4
import Derived.Test.YtoleblefdmdbjaaSmall
namespace Go.Proofs.Ytoleblefdmdbjaa
open Go Go.RowKit Go.Proofs.Ytoleblefdmdbjaa.Flow

theorem cmp_fitK {w : World} {v u : Value} {e f N M : Nat} {K : Int} (h : Fit e N v w) (k : Fit f M u w) (he : e ≤ 900000) (hf : f ≤ 900000) (hK : cmpI N M = K) :
    Calls Try.prog 36 #[v, u] w fun en w' => ∃ x, en = .returned x ∧ x = .int .i64 K ∧ Below w.heap.size w w' := by
  subst hK
  exact cmp_fit h k he hf

theorem zero_fitB {w : World} {v : Value} {e N : Nat} {t : Bool} (h : Fit e N v w) (hz : decide (N = 0) = t) :
    Calls Try.prog 26 #[v] w fun en w' => ∃ x, en = .returned x ∧ x = .bool t ∧ Below w.heap.size w w' := by
  subst hz
  exact zero_fit h

/-- What is laid of the second division: quotient x, no rest. -/
def DivVal (x y : Nat) (v : Value) (w : World) : Prop := ∃ p n c q m d, v = .tuple #[.agg #[.slice p n c], .agg #[.slice q m d], .int .i64 0] ∧ NatAt w p n c x ∧ NatAt w q m d y
def AggVal (x : Nat) (v : Value) (w : World) : Prop := ∃ p n c, v = .agg #[.slice p n c] ∧ NatAt w p n c x
theorem DivVal.keep {x y B : Nat} {v : Value} {w w' : World} (h : DivVal x y v w) (k : Keep B w w') : DivVal x y v w' :=
  let ⟨p, n, c, q, m, d, h1, h2, h3⟩ := h
  ⟨p, n, c, q, m, d, h1, k.nat _ _ _ _ h2, k.nat _ _ _ _ h3⟩
theorem AggVal.keep {x B : Nat} {v : Value} {w w' : World} (h : AggVal x v w) (k : Keep B w w') : AggVal x v w' :=
  let ⟨p, n, c, h1, h2⟩ := h
  ⟨p, n, c, h1, k.nat _ _ _ _ h2⟩
theorem Keep.same (B : Nat) (w : World) : Keep B w w := ⟨Below.refl _ _, fun _ _ _ _ k => k⟩

theorem div_exact {w : World} {v u : Value} {e f x y : Nat} (h : Fit e (x * y) v w) (k : Fit f y u w) (hy : y ≠ 0) (he : e ≤ 800000) (hf : f ≤ 800000) :
    Calls Try.prog 32 #[v, u] w fun en w' => ∃ z, en = .returned z ∧ DivVal x 0 z w' ∧ Below w.heap.size w w' := by
  refine (div_fit h k he hf).mono ?_
  rintro en w' ⟨z, rfl, ⟨q, r, rfl, ⟨p1, n1, c1, rfl, g1, _⟩, ⟨p2, n2, c2, rfl, g2, _⟩⟩, hb⟩
  rw [Nat.mul_div_cancel _ (Nat.pos_of_ne_zero hy)] at g1
  rw [if_neg hy, Nat.mul_mod_left] at g2
  rw [if_neg hy]
  exact ⟨_, rfl, ⟨_, _, _, _, _, _, rfl, g1, g2⟩, hb⟩

set_option maxHeartbeats 8000000 in
set_option maxRecDepth 1000000 in
theorem back_law (w : World) (px : Option Addr) (nx cx : Nat) (X : List Nat) (py : Option Addr) (ny cy : Nat) (Y : List Nat)
    (hX : RowIn w .u8 px nx cx X) (hX8 : Bytes8 X) (hY : RowIn w .u8 py ny cy Y) (hY8 : Bytes8 Y) :
    Calls Try.prog 10 #[.slice px nx cx, .slice py ny cy] w (Yes w) := by
  go_enter Try.func10, Try.ntmps10
  go_wp2_with fail
  refine (lives_calls _).mono ?_
  rintro e w1 ⟨rfl, hbw⟩
  go_wp2_with fail
  refine (num_fit (hX.below hbw) hX8).mono ?_
  rintro e w2 ⟨pa, na, ca, rfl, hA, hb⟩
  replace hbw := bstep hbw hb
  go_wp2_with fail
  refine (num_fit (hY.below hbw) hY8).mono ?_
  rintro e w3 ⟨pb, nb, cb, rfl, hB, hb⟩
  replace hbw := bstep hbw hb
  replace hA := hA.below hb
  clear hb hX hY
  generalize numOf X = x at *
  generalize numOf Y = y at *
  have hbx := Boxes2.mk2 w3 (.slice pa na ca) (.slice pb nb cb) 26 26
  go_wp2_with fail
  refine (div_fit (hA.below hbx.bel) (hB.below hbx.bel) (by omega) (by omega)).mono ?_
  rintro e w4 ⟨z, rfl, ⟨vq, vr, rfl, hQ, hR⟩, hb⟩
  replace hbx := hbx.later hb
  clear hb
  obtain ⟨pq, nq, cq, rfl, hQ1, hQ2⟩ := hQ
  have hQ : Fit 12 (x / y) (.agg #[.slice pq nq cq]) w4 := ⟨pq, nq, cq, rfl, hQ1, hQ2⟩
  obtain ⟨pr, nr, cr, rfl, hR1, hR2⟩ := hR
  have hR : Fit 12 (if y = 0 then 0 else x % y) (.agg #[.slice pr nr cr]) w4 := ⟨pr, nr, cr, rfl, hR1, hR2⟩
  clear hQ1 hQ2 hR1 hR2
  have hbz0 := Boxes2.mk2 w4 (.slice pq nq cq) (.slice pr nr cr) 26 26
  have hbx0 := hbx.later hbz0.bel
  have hz4 := hbx.size
  by_cases hy : y = 0
  · have HY : Hid (y = 0) := Lib.hid hy
    rw [if_pos hy]
    clear hR hy
    have c1 := hbx0.c1
    go_wp2_with fail
    refine (zero_fitB (hB.below hbx0.bel) (t := true) (decide_eq_true HY.out)).mono ?_
    rintro e w5 ⟨_, rfl, rfl, hb⟩
    go_wp2
    go_ret
    exact ⟨rfl, bstep (bstep hbw hbx0.bel) hb⟩
  · have HY : Hid (y ≠ 0) := Lib.hid hy
    rw [if_neg hy] at hR
    rw [if_neg hy]
    clear hy
    have c1 := hbx0.c1
    go_wp2_with fail
    refine (zero_fitB (hB.below hbx0.bel) (t := false) (decide_eq_false HY.out)).mono ?_
    rintro e w6 ⟨_, rfl, rfl, hb⟩
    have hbx1 := hbx0.later hb
    have hbz1 := hbz0.later hb
    clear hb c1 hbx0 hbz0 hbx
    obtain ⟨B0, hB0⟩ : ∃ B0, w6.heap.size = B0 := ⟨_, rfl⟩
    have s1 := hbx1.size
    have s2 := hbz1.size
    rw [hB0] at s1 s2
    have HB0 := Lib.hid hB0
    clear hB0
    go_wp2
    refine wp_region_dutiesS (by kernel_rfl) (by kernel_rfl)
      [some (.agg #[.slice pa na ca]), some (.agg #[.slice pb nb cb]), none, some (.agg #[.slice pb nb cb]), none, none, none, none, some (.int .i64 0), none, none, none, none, some (.int .i64 0)]
      [false, false, true, false, true, true, true, true, false, true, true, true, true, false] rfl
      (fun w1 w2 => Keep B0 w1 w2)
      (fun D sp w' => (Boxes2 w3 w' (.slice pa na ca) (.slice pb nb cb) ∧ Boxes2 w4 w' (.slice pq nq cq) (.slice pr nr cr)) ∧ BoxG B0 x 0 (D 9) (D 10) (D 11) (D 12) (sp 9) (sp 10) w')
      (fun i v w' => match i with
        | 2 => Fit 24 (x * y) v w'
        | 4 | 5 => DivVal x 0 v w'
        | 6 => AggVal x v w'
        | 7 => AggVal 0 v w'
        | _ => True)
      ?_ ⟨⟨hbx1.below (Below.refl _ _).drew hbx1.size, hbz1.below (Below.refl _ _).drew hbz1.size⟩, BoxG.start (Nat.le_of_eq HB0.out.symm)⟩ ?_ ?_
    · intro i v w1 w2 hf hb
      split at hf
      · exact Fit.keep hf hb
      · exact DivVal.keep hf hb
      · exact DivVal.keep hf hb
      · exact AggVal.keep hf hb
      · exact AggVal.keep hf hb
      · trivial
    · simp only [DutiesS, Nat.reduceAdd]
      refine ⟨?_, ?_, ?_, ?_, ?_, ?_, ?_, ?_, ?_, ?_, ?_, ?_, ?_, ?_, trivial⟩
      case refine_3 =>
        intro D sp w' hD hW hdp ⟨hbx', hg⟩
        (with_reducible refine asked_call (w1 := w') (f := 30) (args := #[.agg #[.slice pa na ca], .agg #[.slice pb nb cb]]) ?_ ?_ ?_)
        · simp only [Region.wanted]
        · simp [Act.eval, Act.put, go_sem]
        · refine (mul_fit (hA.below hbx'.1.bel) (hB.below hbx'.1.bel) (by decide) (by decide)).mono ?_
          rintro e w5 ⟨u, rfl, hu, hb⟩
          exact ⟨u, rfl, Keep.of hb hg.size, hu, ⟨hbx'.1.later hb, hbx'.2.later hb⟩, by simpa [upd] using hg.later hb⟩
      case refine_5 =>
        intro D sp w' hD hW hdp ⟨hbx', hg⟩
        have k2 : Fit 24 (x * y) (sp 2) w' := (hdp 2 (List.mem_of_elem_eq_true (by kernel_rfl))).2
        (with_reducible refine asked_call (w1 := w') (f := 32) (args := #[sp 2, .agg #[.slice pb nb cb]]) ?_ ?_ ?_)
        · simp only [Region.wanted]
        · simp [Act.eval, Act.put, go_sem]
        · refine (div_exact k2 (hB.below hbx'.1.bel) HY.out (by decide) (by decide)).mono ?_
          rintro e w5 ⟨u, rfl, hu, hb⟩
          exact ⟨u, rfl, Keep.of hb hg.size, hu, ⟨hbx'.1.later hb, hbx'.2.later hb⟩, by simpa [upd] using hg.later hb⟩
      case refine_6 =>
        intro D sp w' hD hW hdp ⟨hbx', hg⟩
        have k4 : DivVal x 0 (sp 4) w' := (hdp 4 (List.mem_of_elem_eq_true (by kernel_rfl))).2
        (with_reducible refine asked_value (w1 := w') (v := sp 4) ?_ ?_ ?_)
        · simp only [Region.wanted]
        · simp [execOp, Act.eval, Act.put, go_sem]
        · exact ⟨Keep.same _ _, k4, hbx', by simpa [upd] using hg⟩
      case refine_7 =>
        intro D sp w' hD hW hdp ⟨hbx', hg⟩
        have hx : ∃ p n c q m d, sp 5 = .tuple #[.agg #[.slice p n c], .agg #[.slice q m d], .int .i64 0] ∧ NatAt w' p n c x ∧ NatAt w' q m d 0 := (hdp 5 (List.mem_of_elem_eq_true (by kernel_rfl))).2
        (with_reducible refine Exists.elim hx fun p hx1 => ?_)
        (with_reducible refine Exists.elim hx1 fun n hx2 => ?_)
        (with_reducible refine Exists.elim hx2 fun c hx3 => ?_)
        (with_reducible refine Exists.elim hx3 fun q hx4 => ?_)
        (with_reducible refine Exists.elim hx4 fun m hx5 => ?_)
        (with_reducible refine Exists.elim hx5 fun d hx6 => ?_)
        have h1 := hx6.1
        (with_reducible refine asked_value (w1 := w') (v := .agg #[.slice p n c]) ?_ ?_ ?_)
        · simp only [Region.wanted]
        · simp [execOp, Act.eval, Act.put, go_sem, h1]
        · exact ⟨Keep.same _ _, ⟨p, n, c, rfl, hx6.2.1⟩, hbx', by simpa [upd] using hg⟩
      case refine_8 =>
        intro D sp w' hD hW hdp ⟨hbx', hg⟩
        have hx : ∃ p n c q m d, sp 5 = .tuple #[.agg #[.slice p n c], .agg #[.slice q m d], .int .i64 0] ∧ NatAt w' p n c x ∧ NatAt w' q m d 0 := (hdp 5 (List.mem_of_elem_eq_true (by kernel_rfl))).2
        (with_reducible refine Exists.elim hx fun p hx1 => ?_)
        (with_reducible refine Exists.elim hx1 fun n hx2 => ?_)
        (with_reducible refine Exists.elim hx2 fun c hx3 => ?_)
        (with_reducible refine Exists.elim hx3 fun q hx4 => ?_)
        (with_reducible refine Exists.elim hx4 fun m hx5 => ?_)
        (with_reducible refine Exists.elim hx5 fun d hx6 => ?_)
        have h1 := hx6.1
        (with_reducible refine asked_value (w1 := w') (v := .agg #[.slice q m d]) ?_ ?_ ?_)
        · simp only [Region.wanted]
        · simp [execOp, Act.eval, Act.put, go_sem, h1]
        · exact ⟨Keep.same _ _, ⟨q, m, d, rfl, hx6.2.2⟩, hbx', by simpa [upd] using hg⟩
      case refine_9 =>
        intro D sp w' hD hW hdp ⟨hbx', hg⟩
        have hx : ∃ p n c q m d, sp 5 = .tuple #[.agg #[.slice p n c], .agg #[.slice q m d], .int .i64 0] ∧ NatAt w' p n c x ∧ NatAt w' q m d 0 := (hdp 5 (List.mem_of_elem_eq_true (by kernel_rfl))).2
        (with_reducible refine Exists.elim hx fun p hx1 => ?_)
        (with_reducible refine Exists.elim hx1 fun n hx2 => ?_)
        (with_reducible refine Exists.elim hx2 fun c hx3 => ?_)
        (with_reducible refine Exists.elim hx3 fun q hx4 => ?_)
        (with_reducible refine Exists.elim hx4 fun m hx5 => ?_)
        (with_reducible refine Exists.elim hx5 fun d hx6 => ?_)
        have h1 := hx6.1
        simp [asked, Region.wanted, Oper.gives, execOp, Act.eval, Act.put, go_sem, h1]
      case refine_10 =>
        intro D sp w' hD hW hdp ⟨hbx', hg⟩
        have h9 : D 11 = false := hW 11 (List.mem_of_elem_eq_true (by kernel_rfl))
        rw [hD, h9] at hg
        (with_reducible refine asked_value (w1 := w'.alloc (.cells #[.slice none 0 0] 26)) (v := .pointer (some ⟨w'.heap.size, 0, none⟩)) ?_ ?_ ?_)
        · simp only [Region.wanted]
        · simp [execOp, Act.eval, Act.put, go_sem]
        · have hb : Below w'.heap.size w' (w'.alloc (.cells #[.slice none 0 0] 26)) := (Below.refl _ _).alloc (Nat.le_refl _) _
          refine ⟨Keep.of hb hg.size, trivial, ⟨hbx'.1.later hb, hbx'.2.later hb⟩, ?_⟩
          have h8 := hg.alloc1
          simpa [upd, h9] using h8
      case refine_11 =>
        intro D sp w' hD hW hdp ⟨hbx', hg⟩
        have h9 : D 12 = false := hW 12 (List.mem_of_elem_eq_true (by kernel_rfl))
        rw [hD, h9] at hg
        (with_reducible refine asked_value (w1 := w'.alloc (.cells #[.slice none 0 0] 26)) (v := .pointer (some ⟨w'.heap.size, 0, none⟩)) ?_ ?_ ?_)
        · simp only [Region.wanted]
        · simp [execOp, Act.eval, Act.put, go_sem]
        · have hb : Below w'.heap.size w' (w'.alloc (.cells #[.slice none 0 0] 26)) := (Below.refl _ _).alloc (Nat.le_refl _) _
          refine ⟨Keep.of hb hg.size, trivial, ⟨hbx'.1.later hb, hbx'.2.later hb⟩, ?_⟩
          have h8 := hg.alloc2
          simpa [upd, h9] using h8
      case refine_12 =>
        intro D sp w' hD hW hdp ⟨hbx', hg⟩
        have hx : ∃ p n c, sp 6 = .agg #[.slice p n c] ∧ NatAt w' p n c x := (hdp 6 (List.mem_of_elem_eq_true (by kernel_rfl))).2
        have h9 := (hdp 9 (List.mem_of_elem_eq_true (by kernel_rfl))).1
        rw [h9] at hg
        (with_reducible refine Exists.elim hx fun p hx1 => ?_)
        (with_reducible refine Exists.elim hx1 fun n hx2 => ?_)
        (with_reducible refine Exists.elim hx2 fun c hx3 => ?_)
        (with_reducible refine Exists.elim (hg.store1 hx3.2) fun b hy1 => ?_)
        (with_reducible refine Exists.elim hy1 fun q hy2 => ?_)
        (with_reducible refine Exists.elim hy2 fun m hy3 => ?_)
        (with_reducible refine Exists.elim hy3 fun d hy4 => ?_)
        have h1 := hx3.1
        have h3 := hy4.1
        have h4 := hy4.2.1
        have h5 := hy4.2.2.1
        have h6 := h5.cell
        have h7 := h5.free
        (with_reducible refine asked_skip (w1 := w'.setCell ⟨b, 0, none⟩ (.slice p n c)) ?_ ?_ ?_)
        · simp only [Region.wanted]
        · simp [execOp, Act.eval, Act.put, go_sem, h1, h3, h6, h7]
        · refine ⟨Keep.store h5 h4 _, trivial, ⟨hbx'.1.below (B := B0) ((Below.refl _ _).setCell h4 _) s1, hbx'.2.below (B := B0) ((Below.refl _ _).setCell h4 _) s2⟩, ?_⟩
          have h8 := hy4.2.2.2
          simpa [upd, h9] using h8
      case refine_13 =>
        intro D sp w' hD hW hdp ⟨hbx', hg⟩
        have hx : ∃ p n c, sp 7 = .agg #[.slice p n c] ∧ NatAt w' p n c 0 := (hdp 7 (List.mem_of_elem_eq_true (by kernel_rfl))).2
        have h9 := (hdp 10 (List.mem_of_elem_eq_true (by kernel_rfl))).1
        rw [h9] at hg
        (with_reducible refine Exists.elim hx fun p hx1 => ?_)
        (with_reducible refine Exists.elim hx1 fun n hx2 => ?_)
        (with_reducible refine Exists.elim hx2 fun c hx3 => ?_)
        (with_reducible refine Exists.elim (hg.store2 hx3.2) fun b hy1 => ?_)
        (with_reducible refine Exists.elim hy1 fun q hy2 => ?_)
        (with_reducible refine Exists.elim hy2 fun m hy3 => ?_)
        (with_reducible refine Exists.elim hy3 fun d hy4 => ?_)
        have h1 := hx3.1
        have h3 := hy4.1
        have h4 := hy4.2.1
        have h5 := hy4.2.2.1
        have h6 := h5.cell
        have h7 := h5.free
        (with_reducible refine asked_skip (w1 := w'.setCell ⟨b, 0, none⟩ (.slice p n c)) ?_ ?_ ?_)
        · simp only [Region.wanted]
        · simp [execOp, Act.eval, Act.put, go_sem, h1, h3, h6, h7]
        · refine ⟨Keep.store h5 h4 _, trivial, ⟨hbx'.1.below (B := B0) ((Below.refl _ _).setCell h4 _) s1, hbx'.2.below (B := B0) ((Below.refl _ _).setCell h4 _) s2⟩, ?_⟩
          have h8 := hy4.2.2.2
          simpa [upd, h9] using h8
      all_goals
        intro D sp w' hD hW hdp ⟨hbx', hg⟩
        have c0 := hbx'.1.c0
        have c1 := hbx'.1.c1
        simp [asked, Region.wanted, Oper.gives, execOp, Act.eval, Act.put, go_sem, c0, c1]
    · intro sp w7 hsp ⟨hbx2, hg⟩
      obtain ⟨b1, e1, _, pp, np, cp, n1, hP1⟩ := hg.one rfl
      obtain ⟨b2, e2, _, ps, ns, cs, n2, hS1⟩ := hg.two rfl
      replace hP1 := hP1 rfl
      replace hS1 := hS1 rfl
      have hP : Fit 12 x (.agg #[.slice pp np cp]) w7 := Fit.of hP1 hA.lim
      have hS : Fit 12 0 (.agg #[.slice ps ns cs]) w7 := Fit.of hS1 (B32_pos _)
      clear hsp hg hP1 hS1
      simp only [frameOf, Nat.reduceAdd]
      rw [e1, e2]
      clear e1 e2
      generalize sp 2 = u2 at *
      generalize sp 4 = u4 at *
      generalize sp 5 = u5 at *
      generalize sp 6 = u6 at *
      generalize sp 7 = u7 at *
      generalize sp 11 = u11 at *
      generalize sp 12 = u12 at *
      go_simp
      go_wp2
      refine wp_region_duties (by kernel_rfl) (by kernel_rfl)
        [some (.int .i64 0), some (.bool true), some (.bool true), some (.int .i64 0), some (.bool true), some (.bool true), some (.bool true), some (.agg #[.slice pq nq cq]), some (.agg #[.slice pb nb cb]), none, some (.agg #[.slice pr nr cr]), none, some (.agg #[.slice pa na ca]), none, some (.bool true), some (.bool true), some (.bool true), some (.agg #[.slice pr nr cr]), some (.agg #[.slice pb nb cb]), none, some (.bool true), some (.bool true), some (.bool true), some (.agg #[.slice pp np cp]), some (.agg #[.slice pa na ca]), none, some (.bool true), some (.bool true), some (.bool true), some (.agg #[.slice ps ns cs]), none, some (.bool true), some (.bool true)]
        [false, false, false, false, false, false, false, false, false, true, false, true, false, true, false, false, false, false, false, true, false, false, false, false, false, true, false, false, false, false, true, false, false] rfl
        (fun w1 w2 => Below w1.heap.size w1 w2)
        (fun _ w' => (Boxes2 w3 w' (.slice pa na ca) (.slice pb nb cb) ∧ Boxes2 w4 w' (.slice pq nq cq) (.slice pr nr cr)) ∧ Below w7.heap.size w7 w')
        (fun i v w' => match i with
            | 9 => Fit 24 (x / y * y) v w'
            | 11 => Fit 37 (x / y * y + x % y) v w'
            | 13 => v = .int .i64 0
            | 19 => v = .int .i64 (-1)
            | 25 => v = .int .i64 0
            | 30 => v = .bool true
            | _ => True)
        ?_ ⟨⟨hbx2.1.below (Below.refl _ _).drew hbx2.1.size, hbx2.2.below (Below.refl _ _).drew hbx2.2.size⟩, (Below.refl _ _).drew⟩ ?_ ?_
      · intro i v w1 w2 hf hb
        split at hf
        · exact hf.below hb
        · exact hf.below hb
        · exact hf
        · exact hf
        · exact hf
        · exact hf
        · trivial
      · simp only [Duties, Nat.reduceAdd]
        refine ⟨?_, ?_, ?_, ?_, ?_, ?_, ?_, ?_, ?_, ?_, ?_, ?_, ?_, ?_, ?_, ?_, ?_, ?_, ?_, ?_, ?_, ?_, ?_, ?_, ?_, ?_, ?_, ?_, ?_, ?_, ?_, ?_, ?_, trivial⟩
        case refine_10 =>
          intro D sp w' hD hW hdp hbx'
          (with_reducible refine asked_call (w1 := w') (f := 30) (args := #[.agg #[.slice pq nq cq], .agg #[.slice pb nb cb]]) ?_ ?_ ?_)
          · simp [Region.wanted, yielded, Act.put, go_sem]
          · simp [Act.eval, Act.put, go_sem]
          · refine ((mul_fit (hQ.below hbx'.1.2.bel) (hB.below hbx'.1.1.bel) (by decide) (by decide))).mono ?_
            rintro e w5 ⟨u, rfl, hu, hb⟩
            exact ⟨u, rfl, hb, hu, ⟨⟨hbx'.1.1.later hb, hbx'.1.2.later hb⟩, bstep hbx'.2 hb⟩⟩
        case refine_12 =>
          intro D sp w' hD hW hdp hbx'
          have k9 : Fit 24 (x / y * y) (sp 9) w' := (hdp 9 (List.mem_of_elem_eq_true (by kernel_rfl))).2
          (with_reducible refine asked_call (w1 := w') (f := 28) (args := #[sp 9, .agg #[.slice pr nr cr]]) ?_ ?_ ?_)
          · simp [Region.wanted, yielded, Act.put, go_sem]
          · simp [Act.eval, Act.put, go_sem]
          · refine ((add_fit k9 (hR.below hbx'.1.2.bel) (by decide) (by decide))).mono ?_
            rintro e w5 ⟨u, rfl, hu, hb⟩
            exact ⟨u, rfl, hb, hu, ⟨⟨hbx'.1.1.later hb, hbx'.1.2.later hb⟩, bstep hbx'.2 hb⟩⟩
        case refine_14 =>
          intro D sp w' hD hW hdp hbx'
          have k11 : Fit 37 (x / y * y + x % y) (sp 11) w' := (hdp 11 (List.mem_of_elem_eq_true (by kernel_rfl))).2
          (with_reducible refine asked_call (w1 := w') (f := 36) (args := #[sp 11, .agg #[.slice pa na ca]]) ?_ ?_ ?_)
          · simp [Region.wanted, yielded, Act.put, go_sem]
          · simp [Act.eval, Act.put, go_sem]
          · refine ((cmp_fitK k11 (hA.below hbx'.1.1.bel) (by decide) (by decide) (K := 0) (by rw [Nat.mul_comm, Nat.div_add_mod, cmpI_self]))).mono ?_
            rintro e w5 ⟨u, rfl, hu, hb⟩
            exact ⟨u, rfl, hb, hu, ⟨⟨hbx'.1.1.later hb, hbx'.1.2.later hb⟩, bstep hbx'.2 hb⟩⟩
        case refine_20 =>
          intro D sp w' hD hW hdp hbx'
          (with_reducible refine asked_call (w1 := w') (f := 36) (args := #[.agg #[.slice pr nr cr], .agg #[.slice pb nb cb]]) ?_ ?_ ?_)
          · simp [Region.wanted, yielded, Act.put, go_sem]
          · simp [Act.eval, Act.put, go_sem]
          · refine ((cmp_fitK (hR.below hbx'.1.2.bel) (hB.below hbx'.1.1.bel) (by decide) (by decide) (K := -1) (cmpI_lt (Nat.mod_lt _ (Nat.pos_of_ne_zero HY.out))))).mono ?_
            rintro e w5 ⟨u, rfl, hu, hb⟩
            exact ⟨u, rfl, hb, hu, ⟨⟨hbx'.1.1.later hb, hbx'.1.2.later hb⟩, bstep hbx'.2 hb⟩⟩
        case refine_26 =>
          intro D sp w' hD hW hdp hbx'
          (with_reducible refine asked_call (w1 := w') (f := 36) (args := #[.agg #[.slice pp np cp], .agg #[.slice pa na ca]]) ?_ ?_ ?_)
          · simp [Region.wanted, yielded, Act.put, go_sem]
          · simp [Act.eval, Act.put, go_sem]
          · refine ((cmp_fitK (hP.below hbx'.2) (hA.below hbx'.1.1.bel) (by decide) (by decide) (K := 0) (cmpI_self _))).mono ?_
            rintro e w5 ⟨u, rfl, hu, hb⟩
            exact ⟨u, rfl, hb, hu, ⟨⟨hbx'.1.1.later hb, hbx'.1.2.later hb⟩, bstep hbx'.2 hb⟩⟩
        case refine_31 =>
          intro D sp w' hD hW hdp hbx'
          (with_reducible refine asked_call (w1 := w') (f := 26) (args := #[.agg #[.slice ps ns cs]]) ?_ ?_ ?_)
          · simp [Region.wanted, yielded, Act.put, go_sem]
          · simp [Act.eval, Act.put, go_sem]
          · refine ((zero_fitB (hS.below hbx'.2) (t := true) (by decide))).mono ?_
            rintro e w5 ⟨u, rfl, hu, hb⟩
            exact ⟨u, rfl, hb, hu, ⟨⟨hbx'.1.1.later hb, hbx'.1.2.later hb⟩, bstep hbx'.2 hb⟩⟩
        case refine_15 =>
          intro D sp w' hD hW hdp hbx'
          have k13 : (sp 13) = .int .i64 0 := (hdp 13 (List.mem_of_elem_eq_true (by kernel_rfl))).2
          simp [asked, Region.wanted, yielded, Oper.gives, execOp, Act.eval, Act.put, go_sem, k13]
        case refine_21 =>
          intro D sp w' hD hW hdp hbx'
          have k19 : (sp 19) = .int .i64 (-1) := (hdp 19 (List.mem_of_elem_eq_true (by kernel_rfl))).2
          simp [asked, Region.wanted, yielded, Oper.gives, execOp, Act.eval, Act.put, go_sem, k19]
        case refine_27 =>
          intro D sp w' hD hW hdp hbx'
          have k25 : (sp 25) = .int .i64 0 := (hdp 25 (List.mem_of_elem_eq_true (by kernel_rfl))).2
          simp [asked, Region.wanted, yielded, Oper.gives, execOp, Act.eval, Act.put, go_sem, k25]
        case refine_32 =>
          intro D sp w' hD hW hdp hbx'
          have k30 : (sp 30) = .bool true := (hdp 30 (List.mem_of_elem_eq_true (by kernel_rfl))).2
          simp [asked, Region.wanted, yielded, Oper.gives, execOp, Act.eval, Act.put, go_sem, k30]
        all_goals
          intro D sp w' hD hW hdp hbx'
          have c0 := hbx'.1.1.c0
          have c1 := hbx'.1.1.c1
          have c2 := hbx'.1.2.c0
          have c3 := hbx'.1.2.c1
          have c4 := (n1.below hbx'.2 n1.lt).cell
          have c5 := (n2.below hbx'.2 n2.lt).cell
          simp [asked, Region.wanted, yielded, Oper.gives, execOp, Act.eval, Act.put, go_sem, c0, c1, c2, c3, c4, c5]
      · intro sp w8 hsp hbx'
        clear hsp
        simp only [frameOf, Nat.reduceAdd]
        generalize sp 9 = u9 at *
        generalize sp 11 = u11' at *
        generalize sp 13 = u13 at *
        generalize sp 19 = u19 at *
        generalize sp 25 = u25 at *
        generalize sp 30 = u30 at *
        go_simp
        go_wp2
        go_ret
        exact ⟨rfl, bstep hbw hbx'.1.1.bel⟩

end Go.Proofs.Ytoleblefdmdbjaa
