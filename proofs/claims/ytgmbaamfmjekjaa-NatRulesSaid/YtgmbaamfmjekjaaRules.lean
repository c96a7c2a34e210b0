/- The law of sums and products. -/
import Derived.Test.YtgmbaamfmjekjaaFit
namespace Go.Proofs.Ytgmbaamfmjekjaa
open Go Go.RowKit Go.Proofs.Ytgmbaamfmjekjaa.Flow

set_option maxHeartbeats 4000000 in
set_option maxRecDepth 1000000 in
theorem rules_calls (w : World) (px : Option Addr) (nx cx : Nat) (X : List Nat) (py : Option Addr) (ny cy : Nat) (Y : List Nat) (pz : Option Addr) (nz cz : Nat) (Z : List Nat)
    (hX : RowIn w .u8 px nx cx X) (hX8 : Bytes8 X) (hY : RowIn w .u8 py ny cy Y) (hY8 : Bytes8 Y) (hZ : RowIn w .u8 pz nz cz Z) (hZ8 : Bytes8 Z) :
    Calls Try.prog 9 #[.slice px nx cx, .slice py ny cy, .slice pz nz cz] w fun e w' => e = .returned (.bool true) ∧ Below w.heap.size w w' := by
  go_enter Try.func9, Try.ntmps9
  go_wp2_with fail
  refine (lives_calls _).mono ?_
  rintro e w0 ⟨rfl, hb0⟩
  go_wp2_with fail
  refine (num_fit (hX.below hb0) hX8).mono ?_
  rintro e w1 ⟨pa, na, ca, rfl, hA, hb1⟩
  go_wp2_with fail
  refine (num_fit ((hY.below hb0).below hb1) hY8).mono ?_
  rintro e w2 ⟨pb, nb, cb, rfl, hB, hb2⟩
  go_wp2_with fail
  refine (num_fit (((hZ.below hb0).below hb1).below hb2) hZ8).mono ?_
  rintro e w3 ⟨pc, nc, cc, rfl, hC, hb3⟩
  replace hA := (hA.below hb2).below hb3
  replace hB := hB.below hb3
  have hbw : Below w.heap.size w w3 := ((hb0.trans (hb1.mono hb0.size)).trans (hb2.mono (Nat.le_trans hb0.size hb1.size))).trans (hb3.mono (Nat.le_trans hb0.size (Nat.le_trans hb1.size hb2.size)))
  clear hX hY hZ hb0 hb1 hb2 hb3
  generalize numOf X = x at *
  generalize numOf Y = y at *
  generalize numOf Z = z at *
  have hbx := Boxes3.mk3 w3 (.slice pa na ca) (.slice pb nb cb) (.slice pc nc cc) 26 26 26
  go_wp2
  refine wp_region_dutiesS (by kernel_rfl) (by kernel_rfl)
    [some (.agg #[.slice pa na ca]), some (.agg #[.slice pb nb cb]), none, some (.agg #[.slice pb nb cb]), none, none, none, some (.bool true), none, none, some (.bool true)]
    [false, false, true, false, true, true, true, false, true, true, false] rfl
    (fun w1 w2 => Keep (w3.heap.size + 3) w1 w2)
    (fun D sp w' => Boxes3 w3 w' (.slice pa na ca) (.slice pb nb cb) (.slice pc nc cc) ∧ (D 8 = true → ∃ b, sp 8 = .pointer (some ⟨b, 0, none⟩) ∧ w3.heap.size + 3 ≤ b ∧ ∃ p n c, NatBox w' b (.slice p n c) ∧ (D 9 = true → NatAt w' p n c x)))
    (fun i v w' => match i with
      | 2 => Fit 25 (x + y) v w'
      | 4 | 5 => ∃ p n c, v = .tuple #[.agg #[.slice p n c], .bool true] ∧ NatAt w' p n c x
      | 6 => ∃ p n c, v = .agg #[.slice p n c] ∧ NatAt w' p n c x
      | _ => True)
    ?_ ⟨hbx.below (Below.refl _ _).drew (Nat.le_refl _), fun h => by cases h⟩ ?_ ?_
  · intro i v w1 w2 hf hb
    split at hf
    · exact Fit.keep hf hb
    · obtain ⟨p, n, c, h1, h2⟩ := hf; exact ⟨p, n, c, h1, hb.nat _ _ _ _ h2⟩
    · obtain ⟨p, n, c, h1, h2⟩ := hf; exact ⟨p, n, c, h1, hb.nat _ _ _ _ h2⟩
    · obtain ⟨p, n, c, h1, h2⟩ := hf; exact ⟨p, n, c, h1, hb.nat _ _ _ _ h2⟩
    · trivial
  · simp only [DutiesS, Nat.reduceAdd]
    refine ⟨?_, ?_, ?_, ?_, ?_, ?_, ?_, ?_, ?_, ?_, ?_, trivial⟩
    case refine_3 =>
      intro D sp w' hD hW hdp ⟨hbx', hg⟩
      (with_reducible refine asked_call (w1 := w') (f := 27) (args := #[.agg #[.slice pa na ca], .agg #[.slice pb nb cb]]) ?_ ?_ ?_)
      · simp only [Region.wanted]
      · simp [Act.eval, Act.put, go_sem]
      · refine (add_fit (hA.below hbx'.bel) (hB.below hbx'.bel) (by decide) (by decide)).mono ?_
        rintro e w5 ⟨u, rfl, hu, hb⟩
        exact ⟨u, rfl, Keep.of hb hbx'.size, hu, ⟨hbx'.later hb, fun h8 => by
          obtain ⟨b, k1, k2, p', n', c', k3, k4⟩ := hg (by simpa using h8)
          exact ⟨b, by simpa [upd] using k1, k2, p', n', c', k3.below hb k3.lt, fun h9 => (k4 (by simpa using h9)).below hb⟩⟩⟩
    case refine_5 =>
      intro D sp w' hD hW hdp ⟨hbx', hg⟩
      have k2 : Fit 25 (x + y) (sp 2) w' := (hdp 2 (List.mem_of_elem_eq_true (by kernel_rfl))).2
      (with_reducible refine asked_call (w1 := w') (f := 23) (args := #[sp 2, .agg #[.slice pb nb cb]]) ?_ ?_ ?_)
      · simp only [Region.wanted]
      · simp [Act.eval, Act.put, go_sem]
      · refine (sub_fit k2 (hB.below hbx'.bel) (by decide) (by decide)).mono ?_
        rintro e w5 ⟨u, rfl, ⟨p, n, c, rfl, hu, _⟩, hb⟩
        rw [Nat.add_sub_cancel] at hu
        have hle : decide (y ≤ x + y) = true := by simp
        exact ⟨_, rfl, Keep.of hb hbx'.size, ⟨p, n, c, by rw [hle], hu⟩, ⟨hbx'.later hb, fun h8 => by
          obtain ⟨b, k1, k2, p', n', c', k3, k4⟩ := hg (by simpa using h8)
          exact ⟨b, by simpa [upd] using k1, k2, p', n', c', k3.below hb k3.lt, fun h9 => (k4 (by simpa using h9)).below hb⟩⟩⟩
    case refine_6 =>
      intro D sp w' hD hW hdp ⟨hbx', hg⟩
      have hx : ∃ p n c, sp 4 = .tuple #[.agg #[.slice p n c], .bool true] ∧ NatAt w' p n c x := (hdp 4 (List.mem_of_elem_eq_true (by kernel_rfl))).2
      (with_reducible refine Exists.elim hx fun p hx1 => ?_)
      (with_reducible refine Exists.elim hx1 fun n hx2 => ?_)
      (with_reducible refine Exists.elim hx2 fun c hx3 => ?_)
      have h1 := hx3.1
      have h2 := hx3.2
      (with_reducible refine asked_value (w1 := w') (v := .tuple #[.agg #[.slice p n c], .bool true]) ?_ ?_ ?_)
      · simp only [Region.wanted]
      · simp [execOp, Act.eval, Act.put, go_sem, h1]
      · exact ⟨⟨Below.refl _ _, fun _ _ _ _ k => k⟩, ⟨p, n, c, rfl, h2⟩, ⟨hbx', fun h8 => by
          obtain ⟨b, k1, k2, p', n', c', k3, k4⟩ := hg (by simpa using h8)
          exact ⟨b, by simpa [upd] using k1, k2, p', n', c', k3, fun h9 => k4 (by simpa using h9)⟩⟩⟩
    case refine_7 =>
      intro D sp w' hD hW hdp ⟨hbx', hg⟩
      have hx : ∃ p n c, sp 5 = .tuple #[.agg #[.slice p n c], .bool true] ∧ NatAt w' p n c x := (hdp 5 (List.mem_of_elem_eq_true (by kernel_rfl))).2
      (with_reducible refine Exists.elim hx fun p hx1 => ?_)
      (with_reducible refine Exists.elim hx1 fun n hx2 => ?_)
      (with_reducible refine Exists.elim hx2 fun c hx3 => ?_)
      have h1 := hx3.1
      have h2 := hx3.2
      (with_reducible refine asked_value (w1 := w') (v := .agg #[.slice p n c]) ?_ ?_ ?_)
      · simp only [Region.wanted]
      · simp [execOp, Act.eval, Act.put, go_sem, h1]
      · exact ⟨⟨Below.refl _ _, fun _ _ _ _ k => k⟩, ⟨p, n, c, rfl, h2⟩, ⟨hbx', fun h8 => by
          obtain ⟨b, k1, k2, p', n', c', k3, k4⟩ := hg (by simpa using h8)
          exact ⟨b, by simpa [upd] using k1, k2, p', n', c', k3, fun h9 => k4 (by simpa using h9)⟩⟩⟩
    case refine_8 =>
      intro D sp w' hD hW hdp ⟨hbx', hg⟩
      have hx : ∃ p n c, sp 5 = .tuple #[.agg #[.slice p n c], .bool true] ∧ NatAt w' p n c x := (hdp 5 (List.mem_of_elem_eq_true (by kernel_rfl))).2
      (with_reducible refine Exists.elim hx fun p hx1 => ?_)
      (with_reducible refine Exists.elim hx1 fun n hx2 => ?_)
      (with_reducible refine Exists.elim hx2 fun c hx3 => ?_)
      have h1 := hx3.1
      simp [asked, Region.wanted, Oper.gives, execOp, Act.eval, Act.put, go_sem, h1]
    case refine_9 =>
      intro D sp w' hD hW hdp ⟨hbx', hg⟩
      have h9 : D 9 = false := hW 9 (List.mem_of_elem_eq_true (by kernel_rfl))
      (with_reducible refine asked_value (w1 := w'.alloc (.cells #[.slice none 0 0] 26)) (v := .pointer (some ⟨w'.heap.size, 0, none⟩)) ?_ ?_ ?_)
      · simp only [Region.wanted]
      · simp [execOp, Act.eval, Act.put, go_sem]
      · have hb : Below w'.heap.size w' (w'.alloc (.cells #[.slice none 0 0] 26)) := (Below.refl _ _).alloc (Nat.le_refl _) _
        refine ⟨Keep.of hb hbx'.size, trivial, hbx'.later hb, fun _ => ⟨w'.heap.size, by simp [upd], hbx'.size, none, 0, 0, NatBox.made _ _, fun h => ?_⟩⟩
        simp [h9] at h
    case refine_10 =>
      intro D sp w' hD hW hdp ⟨hbx', hg⟩
      have hx : ∃ p n c, sp 6 = .agg #[.slice p n c] ∧ NatAt w' p n c x := (hdp 6 (List.mem_of_elem_eq_true (by kernel_rfl))).2
      have hy := hg (hdp 8 (List.mem_of_elem_eq_true (by kernel_rfl))).1
      (with_reducible refine Exists.elim hx fun p hx1 => ?_)
      (with_reducible refine Exists.elim hx1 fun n hx2 => ?_)
      (with_reducible refine Exists.elim hx2 fun c hx3 => ?_)
      (with_reducible refine Exists.elim hy fun b hy1 => ?_)
      have h1 := hx3.1
      have h2 := hx3.2
      have h3 := hy1.1
      have h4 := hy1.2.1
      (with_reducible refine Exists.elim hy1.2.2 fun p' hy2 => ?_)
      (with_reducible refine Exists.elim hy2 fun n' hy3 => ?_)
      (with_reducible refine Exists.elim hy3 fun c' hy4 => ?_)
      have h5 := hy4.1
      have h6 := h5.cell
      have h7 := h5.free
      (with_reducible refine asked_skip (w1 := w'.setCell ⟨b, 0, none⟩ (.slice p n c)) ?_ ?_ ?_)
      · simp only [Region.wanted]
      · simp [execOp, Act.eval, Act.put, go_sem, h1, h3, h6, h7]
      · refine ⟨Keep.store h5 h4 _, trivial, hbx'.below (B := w3.heap.size + 3) ((Below.refl _ _).setCell h4 _) (Nat.le_refl _), fun _ => ⟨b, by simpa [upd] using h3, h4, p, n, c, h5.set _, fun _ => h2.store h5 _⟩⟩
    all_goals
      intro D sp w' hD hW hdp ⟨hbx', hg⟩
      have c0 := hbx'.c0
      have c1 := hbx'.c1
      have c2 := hbx'.c2
      simp [asked, Region.wanted, Oper.gives, execOp, Act.eval, Act.put, go_sem, c0, c1, c2]
  · intro sp w4 hsp ⟨hbx', hg⟩
    obtain ⟨b, k1, k2, pd, nd, cd, k3, k4⟩ := hg rfl
    have hD := k4 rfl
    clear hsp hg k4
    simp only [frameOf, Nat.reduceAdd]
    rw [k1]
    generalize sp 2 = u2 at *
    generalize sp 4 = u4 at *
    generalize sp 5 = u5 at *
    generalize sp 6 = u6 at *
    go_simp
    have hA4 := hA.below hbx'.bel
    have hB4 := hB.below hbx'.bel
    have hC4 := hC.below hbx'.bel
    have hD4 : Fit 12 x (.agg #[.slice pd nd cd]) w4 := Fit.of hD hA.lim
    have hbw4 : Below w.heap.size w w4 := hbw.trans (hbx'.bel.mono hbw.size)
    obtain ⟨L, hL0, hLc⟩ : ∃ L : List (Addr × Value), Cells w4 w4 L ∧ ∀ w', Cells w4 w' L → w'.cell? ⟨w3.heap.size, 0, none⟩ = some (.slice pa na ca) ∧ w'.cell? ⟨w3.heap.size + 1, 0, none⟩ = some (.slice pb nb cb) ∧ w'.cell? ⟨w3.heap.size + 1 + 1, 0, none⟩ = some (.slice pc nc cc) ∧ w'.cell? ⟨b, 0, none⟩ = some (.slice pd nd cd) := by
      refine ⟨[(⟨w3.heap.size, 0, none⟩, .slice pa na ca), (⟨w3.heap.size + 1, 0, none⟩, .slice pb nb cb), (⟨w3.heap.size + 1 + 1, 0, none⟩, .slice pc nc cc), (⟨b, 0, none⟩, .slice pd nd cd)], Cells.start (Below.refl _ _) ?_ ?_, fun w' h => ⟨h.at_ (_, _) (by simp), h.at_ (_, _) (by simp), h.at_ (_, _) (by simp), h.at_ (_, _) (by simp)⟩⟩
      · have := hbx'.size
        have := k3.lt
        intro y hy
        simp only [List.mem_cons, List.not_mem_nil, or_false] at hy
        rcases hy with rfl | rfl | rfl | rfl <;> simp <;> omega
      · intro y hy
        simp only [List.mem_cons, List.not_mem_nil, or_false] at hy
        rcases hy with rfl | rfl | rfl | rfl
        · exact hbx'.c0
        · exact hbx'.c1
        · exact hbx'.c2
        · exact k3.cell
    clear hA hB hC hD hbx hbx' k1 k2 k3 hbw
    go_wp2
    refine wp_region_duties (by kernel_rfl) (by kernel_rfl)
      [some (.bool true), some (.bool false), some (.bool false), some (.agg #[.slice pd nd cd]), some (.agg #[.slice pa na ca]), none, some (.bool false), some (.bool false), some (.bool false), some (.agg #[.slice pa na ca]), some (.agg #[.slice pb nb cb]), none, some (.agg #[.slice pb nb cb]), some (.agg #[.slice pa na ca]), none, none, some (.bool false), some (.bool false), some (.bool false), some (.agg #[.slice pa na ca]), some (.agg #[.slice pb nb cb]), none, some (.agg #[.slice pb nb cb]), some (.agg #[.slice pa na ca]), none, none, some (.bool false), some (.bool false), some (.bool false), some (.agg #[.slice pa na ca]), some (.agg #[.slice pb nb cb]), none, some (.agg #[.slice pc nc cc]), none, some (.agg #[.slice pa na ca]), some (.agg #[.slice pb nb cb]), some (.agg #[.slice pc nc cc]), none, none, none, some (.bool false), some (.bool false)]
      [false, false, false, false, false, true, false, false, false, false, false, true, false, false, true, true, false, false, false, false, false, true, false, false, true, true, false, false, false, false, false, true, false, true, false, false, false, true, true, true, false, false] rfl
      (fun w1 w2 => Below w1.heap.size w1 w2)
      (fun _ w' => Cells w4 w' L)
      (fun i v w' => match i with
          | 5 => v = .int .i64 (0)
          | 11 => Fit 25 (x + y) v w'
          | 14 => Fit 25 (y + x) v w'
          | 15 => v = .int .i64 (0)
          | 21 => Fit 24 (x * y) v w'
          | 24 => Fit 24 (y * x) v w'
          | 25 => v = .int .i64 (0)
          | 31 => Fit 25 (x + y) v w'
          | 33 => Fit 38 ((x + y) + z) v w'
          | 37 => Fit 25 (y + z) v w'
          | 38 => Fit 38 (x + (y + z)) v w'
          | 39 => v = .int .i64 (0)
          | _ => True)
      ?_ (hL0.later (Below.refl _ _).drew) ?_ ?_
    · intro i v w1 w2 hf hb
      split at hf <;> first | exact hf | exact Fit.below hf hb
    · simp only [Duties, Nat.reduceAdd]
      refine ⟨?_, ?_, ?_, ?_, ?_, ?_, ?_, ?_, ?_, ?_, ?_, ?_, ?_, ?_, ?_, ?_, ?_, ?_, ?_, ?_, ?_, ?_, ?_, ?_, ?_, ?_, ?_, ?_, ?_, ?_, ?_, ?_, ?_, ?_, ?_, ?_, ?_, ?_, ?_, ?_, ?_, ?_, trivial⟩
      case refine_6 =>
        intro D sp w' hD hW hdp hbx'
        (with_reducible refine asked_call (w1 := w') (f := 35) (args := #[.agg #[.slice pd nd cd], .agg #[.slice pa na ca]]) ?_ ?_ ?_)
        · simp [Region.wanted, yielded, Act.put, go_sem]
        · simp [Act.eval, Act.put, go_sem]
        · refine (cmp_fit ((hD4).below (hbx'.bel)) ((hA4).below (hbx'.bel)) (by decide) (by decide)).mono ?_
          rintro e w5 ⟨u, rfl, hu, hb⟩
          exact ⟨u, rfl, hb, hu.trans (congrArg _ (by rw [show x = x from by first | rfl | ac_rfl | exact Nat.mul_add _ _ _ | (simp only [Nat.mul_add, Nat.add_mul]; ac_rfl) | omega, cmpI_self])), hbx'.later hb⟩
      case refine_12 =>
        intro D sp w' hD hW hdp hbx'
        (with_reducible refine asked_call (w1 := w') (f := 27) (args := #[.agg #[.slice pa na ca], .agg #[.slice pb nb cb]]) ?_ ?_ ?_)
        · simp [Region.wanted, yielded, Act.put, go_sem]
        · simp [Act.eval, Act.put, go_sem]
        · refine (add_fit ((hA4).below (hbx'.bel)) ((hB4).below (hbx'.bel)) (by decide) (by decide)).mono ?_
          rintro e w5 ⟨u, rfl, hu, hb⟩
          exact ⟨u, rfl, hb, hu, hbx'.later hb⟩
      case refine_15 =>
        intro D sp w' hD hW hdp hbx'
        (with_reducible refine asked_call (w1 := w') (f := 27) (args := #[.agg #[.slice pb nb cb], .agg #[.slice pa na ca]]) ?_ ?_ ?_)
        · simp [Region.wanted, yielded, Act.put, go_sem]
        · simp [Act.eval, Act.put, go_sem]
        · refine (add_fit ((hB4).below (hbx'.bel)) ((hA4).below (hbx'.bel)) (by decide) (by decide)).mono ?_
          rintro e w5 ⟨u, rfl, hu, hb⟩
          exact ⟨u, rfl, hb, hu, hbx'.later hb⟩
      case refine_16 =>
        intro D sp w' hD hW hdp hbx'
        have k11 : Fit 25 (x + y) (sp 11) w' := (hdp 11 (List.mem_of_elem_eq_true (by kernel_rfl))).2
        have k14 : Fit 25 (y + x) (sp 14) w' := (hdp 14 (List.mem_of_elem_eq_true (by kernel_rfl))).2
        (with_reducible refine asked_call (w1 := w') (f := 35) (args := #[sp 11, sp 14]) ?_ ?_ ?_)
        · simp [Region.wanted, yielded, Act.put, go_sem]
        · simp [Act.eval, Act.put, go_sem]
        · refine (cmp_fit k11 k14 (by decide) (by decide)).mono ?_
          rintro e w5 ⟨u, rfl, hu, hb⟩
          exact ⟨u, rfl, hb, hu.trans (congrArg _ (by rw [show (x + y) = (y + x) from by first | rfl | ac_rfl | exact Nat.mul_add _ _ _ | (simp only [Nat.mul_add, Nat.add_mul]; ac_rfl) | omega, cmpI_self])), hbx'.later hb⟩
      case refine_22 =>
        intro D sp w' hD hW hdp hbx'
        (with_reducible refine asked_call (w1 := w') (f := 29) (args := #[.agg #[.slice pa na ca], .agg #[.slice pb nb cb]]) ?_ ?_ ?_)
        · simp [Region.wanted, yielded, Act.put, go_sem]
        · simp [Act.eval, Act.put, go_sem]
        · refine (mul_fit ((hA4).below (hbx'.bel)) ((hB4).below (hbx'.bel)) (by decide) (by decide)).mono ?_
          rintro e w5 ⟨u, rfl, hu, hb⟩
          exact ⟨u, rfl, hb, hu, hbx'.later hb⟩
      case refine_25 =>
        intro D sp w' hD hW hdp hbx'
        (with_reducible refine asked_call (w1 := w') (f := 29) (args := #[.agg #[.slice pb nb cb], .agg #[.slice pa na ca]]) ?_ ?_ ?_)
        · simp [Region.wanted, yielded, Act.put, go_sem]
        · simp [Act.eval, Act.put, go_sem]
        · refine (mul_fit ((hB4).below (hbx'.bel)) ((hA4).below (hbx'.bel)) (by decide) (by decide)).mono ?_
          rintro e w5 ⟨u, rfl, hu, hb⟩
          exact ⟨u, rfl, hb, hu, hbx'.later hb⟩
      case refine_26 =>
        intro D sp w' hD hW hdp hbx'
        have k21 : Fit 24 (x * y) (sp 21) w' := (hdp 21 (List.mem_of_elem_eq_true (by kernel_rfl))).2
        have k24 : Fit 24 (y * x) (sp 24) w' := (hdp 24 (List.mem_of_elem_eq_true (by kernel_rfl))).2
        (with_reducible refine asked_call (w1 := w') (f := 35) (args := #[sp 21, sp 24]) ?_ ?_ ?_)
        · simp [Region.wanted, yielded, Act.put, go_sem]
        · simp [Act.eval, Act.put, go_sem]
        · refine (cmp_fit k21 k24 (by decide) (by decide)).mono ?_
          rintro e w5 ⟨u, rfl, hu, hb⟩
          exact ⟨u, rfl, hb, hu.trans (congrArg _ (by rw [show (x * y) = (y * x) from by first | rfl | ac_rfl | exact Nat.mul_add _ _ _ | (simp only [Nat.mul_add, Nat.add_mul]; ac_rfl) | omega, cmpI_self])), hbx'.later hb⟩
      case refine_32 =>
        intro D sp w' hD hW hdp hbx'
        (with_reducible refine asked_call (w1 := w') (f := 27) (args := #[.agg #[.slice pa na ca], .agg #[.slice pb nb cb]]) ?_ ?_ ?_)
        · simp [Region.wanted, yielded, Act.put, go_sem]
        · simp [Act.eval, Act.put, go_sem]
        · refine (add_fit ((hA4).below (hbx'.bel)) ((hB4).below (hbx'.bel)) (by decide) (by decide)).mono ?_
          rintro e w5 ⟨u, rfl, hu, hb⟩
          exact ⟨u, rfl, hb, hu, hbx'.later hb⟩
      case refine_34 =>
        intro D sp w' hD hW hdp hbx'
        have k31 : Fit 25 (x + y) (sp 31) w' := (hdp 31 (List.mem_of_elem_eq_true (by kernel_rfl))).2
        (with_reducible refine asked_call (w1 := w') (f := 27) (args := #[sp 31, .agg #[.slice pc nc cc]]) ?_ ?_ ?_)
        · simp [Region.wanted, yielded, Act.put, go_sem]
        · simp [Act.eval, Act.put, go_sem]
        · refine (add_fit k31 ((hC4).below (hbx'.bel)) (by decide) (by decide)).mono ?_
          rintro e w5 ⟨u, rfl, hu, hb⟩
          exact ⟨u, rfl, hb, hu, hbx'.later hb⟩
      case refine_38 =>
        intro D sp w' hD hW hdp hbx'
        (with_reducible refine asked_call (w1 := w') (f := 27) (args := #[.agg #[.slice pb nb cb], .agg #[.slice pc nc cc]]) ?_ ?_ ?_)
        · simp [Region.wanted, yielded, Act.put, go_sem]
        · simp [Act.eval, Act.put, go_sem]
        · refine (add_fit ((hB4).below (hbx'.bel)) ((hC4).below (hbx'.bel)) (by decide) (by decide)).mono ?_
          rintro e w5 ⟨u, rfl, hu, hb⟩
          exact ⟨u, rfl, hb, hu, hbx'.later hb⟩
      case refine_39 =>
        intro D sp w' hD hW hdp hbx'
        have k37 : Fit 25 (y + z) (sp 37) w' := (hdp 37 (List.mem_of_elem_eq_true (by kernel_rfl))).2
        (with_reducible refine asked_call (w1 := w') (f := 27) (args := #[.agg #[.slice pa na ca], sp 37]) ?_ ?_ ?_)
        · simp [Region.wanted, yielded, Act.put, go_sem]
        · simp [Act.eval, Act.put, go_sem]
        · refine (add_fit ((hA4).below (hbx'.bel)) k37 (by decide) (by decide)).mono ?_
          rintro e w5 ⟨u, rfl, hu, hb⟩
          exact ⟨u, rfl, hb, hu, hbx'.later hb⟩
      case refine_40 =>
        intro D sp w' hD hW hdp hbx'
        have k33 : Fit 38 ((x + y) + z) (sp 33) w' := (hdp 33 (List.mem_of_elem_eq_true (by kernel_rfl))).2
        have k38 : Fit 38 (x + (y + z)) (sp 38) w' := (hdp 38 (List.mem_of_elem_eq_true (by kernel_rfl))).2
        (with_reducible refine asked_call (w1 := w') (f := 35) (args := #[sp 33, sp 38]) ?_ ?_ ?_)
        · simp [Region.wanted, yielded, Act.put, go_sem]
        · simp [Act.eval, Act.put, go_sem]
        · refine (cmp_fit k33 k38 (by decide) (by decide)).mono ?_
          rintro e w5 ⟨u, rfl, hu, hb⟩
          exact ⟨u, rfl, hb, hu.trans (congrArg _ (by rw [show ((x + y) + z) = (x + (y + z)) from by first | rfl | ac_rfl | exact Nat.mul_add _ _ _ | (simp only [Nat.mul_add, Nat.add_mul]; ac_rfl) | omega, cmpI_self])), hbx'.later hb⟩
      case refine_7 =>
        intro D sp w' hD hW hdp hbx'
        have k5 : sp 5 = .int .i64 (0) := (hdp 5 (List.mem_of_elem_eq_true (by kernel_rfl))).2
        simp [asked, Region.wanted, yielded, Oper.gives, execOp, Act.eval, Act.put, go_sem, k5]
      case refine_17 =>
        intro D sp w' hD hW hdp hbx'
        have k15 : sp 15 = .int .i64 (0) := (hdp 15 (List.mem_of_elem_eq_true (by kernel_rfl))).2
        simp [asked, Region.wanted, yielded, Oper.gives, execOp, Act.eval, Act.put, go_sem, k15]
      case refine_27 =>
        intro D sp w' hD hW hdp hbx'
        have k25 : sp 25 = .int .i64 (0) := (hdp 25 (List.mem_of_elem_eq_true (by kernel_rfl))).2
        simp [asked, Region.wanted, yielded, Oper.gives, execOp, Act.eval, Act.put, go_sem, k25]
      case refine_41 =>
        intro D sp w' hD hW hdp hbx'
        have k39 : sp 39 = .int .i64 (0) := (hdp 39 (List.mem_of_elem_eq_true (by kernel_rfl))).2
        simp [asked, Region.wanted, yielded, Oper.gives, execOp, Act.eval, Act.put, go_sem, k39]
      all_goals
        intro D sp w' hD hW hdp hbx'
        have c0 := (hLc w' hbx').1
        have c1 := (hLc w' hbx').2.1
        have c2 := (hLc w' hbx').2.2.1
        have c3 := (hLc w' hbx').2.2.2
        simp [asked, Region.wanted, yielded, Oper.gives, execOp, Act.eval, Act.put, go_sem, c0, c1, c2, c3]
    · intro sp w5 hsp hbx'
      clear hsp
      simp only [frameOf, Nat.reduceAdd]
      generalize sp 5 = u5 at *
      generalize sp 11 = u11 at *
      generalize sp 14 = u14 at *
      generalize sp 15 = u15 at *
      generalize sp 21 = u21 at *
      generalize sp 24 = u24 at *
      generalize sp 25 = u25 at *
      generalize sp 31 = u31 at *
      generalize sp 33 = u33 at *
      generalize sp 37 = u37 at *
      generalize sp 38 = u38 at *
      generalize sp 39 = u39 at *
      go_simp
      have hL5 := hbx'
      clear hbx'
      go_wp2
      refine wp_region_duties (by kernel_rfl) (by kernel_rfl)
        [some (.agg #[.slice pa na ca]), some (.agg #[.slice pb nb cb]), none, some (.agg #[.slice pc nc cc]), none, some (.agg #[.slice pa na ca]), some (.agg #[.slice pb nb cb]), some (.agg #[.slice pc nc cc]), none, none, none, some (.bool true), some (.bool true), some (.agg #[.slice pa na ca]), some (.agg #[.slice pb nb cb]), some (.agg #[.slice pc nc cc]), none, none, some (.agg #[.slice pa na ca]), some (.agg #[.slice pb nb cb]), none, some (.agg #[.slice pa na ca]), some (.agg #[.slice pc nc cc]), none, none, none, some (.bool true), some (.bool true), some (.bool true)]
        [false, false, true, false, true, false, false, false, true, true, true, false, false, false, false, false, true, true, false, false, true, false, false, true, true, true, false, false, false] rfl
        (fun w1 w2 => Below w1.heap.size w1 w2)
        (fun _ w' => Cells w4 w' L)
        (fun i v w' => match i with
            | 2 => Fit 24 (x * y) v w'
            | 4 => Fit 36 ((x * y) * z) v w'
            | 8 => Fit 24 (y * z) v w'
            | 9 => Fit 36 (x * (y * z)) v w'
            | 10 => v = .int .i64 (0)
            | 16 => Fit 25 (y + z) v w'
            | 17 => Fit 37 (x * (y + z)) v w'
            | 20 => Fit 24 (x * y) v w'
            | 23 => Fit 24 (x * z) v w'
            | 24 => Fit 49 ((x * y) + (x * z)) v w'
            | 25 => v = .int .i64 (0)
            | _ => True)
        ?_ (hL5.later (Below.refl _ _).drew) ?_ ?_
      · intro i v w1 w2 hf hb
        split at hf <;> first | exact hf | exact Fit.below hf hb
      · simp only [Duties, Nat.reduceAdd]
        refine ⟨?_, ?_, ?_, ?_, ?_, ?_, ?_, ?_, ?_, ?_, ?_, ?_, ?_, ?_, ?_, ?_, ?_, ?_, ?_, ?_, ?_, ?_, ?_, ?_, ?_, ?_, ?_, ?_, ?_, trivial⟩
        case refine_3 =>
          intro D sp w' hD hW hdp hbx'
          (with_reducible refine asked_call (w1 := w') (f := 29) (args := #[.agg #[.slice pa na ca], .agg #[.slice pb nb cb]]) ?_ ?_ ?_)
          · simp [Region.wanted, yielded, Act.put, go_sem]
          · simp [Act.eval, Act.put, go_sem]
          · refine (mul_fit ((hA4).below (hbx'.bel)) ((hB4).below (hbx'.bel)) (by decide) (by decide)).mono ?_
            rintro e w5 ⟨u, rfl, hu, hb⟩
            exact ⟨u, rfl, hb, hu, hbx'.later hb⟩
        case refine_5 =>
          intro D sp w' hD hW hdp hbx'
          have k2 : Fit 24 (x * y) (sp 2) w' := (hdp 2 (List.mem_of_elem_eq_true (by kernel_rfl))).2
          (with_reducible refine asked_call (w1 := w') (f := 29) (args := #[sp 2, .agg #[.slice pc nc cc]]) ?_ ?_ ?_)
          · simp [Region.wanted, yielded, Act.put, go_sem]
          · simp [Act.eval, Act.put, go_sem]
          · refine (mul_fit k2 ((hC4).below (hbx'.bel)) (by decide) (by decide)).mono ?_
            rintro e w5 ⟨u, rfl, hu, hb⟩
            exact ⟨u, rfl, hb, hu, hbx'.later hb⟩
        case refine_9 =>
          intro D sp w' hD hW hdp hbx'
          (with_reducible refine asked_call (w1 := w') (f := 29) (args := #[.agg #[.slice pb nb cb], .agg #[.slice pc nc cc]]) ?_ ?_ ?_)
          · simp [Region.wanted, yielded, Act.put, go_sem]
          · simp [Act.eval, Act.put, go_sem]
          · refine (mul_fit ((hB4).below (hbx'.bel)) ((hC4).below (hbx'.bel)) (by decide) (by decide)).mono ?_
            rintro e w5 ⟨u, rfl, hu, hb⟩
            exact ⟨u, rfl, hb, hu, hbx'.later hb⟩
        case refine_10 =>
          intro D sp w' hD hW hdp hbx'
          have k8 : Fit 24 (y * z) (sp 8) w' := (hdp 8 (List.mem_of_elem_eq_true (by kernel_rfl))).2
          (with_reducible refine asked_call (w1 := w') (f := 29) (args := #[.agg #[.slice pa na ca], sp 8]) ?_ ?_ ?_)
          · simp [Region.wanted, yielded, Act.put, go_sem]
          · simp [Act.eval, Act.put, go_sem]
          · refine (mul_fit ((hA4).below (hbx'.bel)) k8 (by decide) (by decide)).mono ?_
            rintro e w5 ⟨u, rfl, hu, hb⟩
            exact ⟨u, rfl, hb, hu, hbx'.later hb⟩
        case refine_11 =>
          intro D sp w' hD hW hdp hbx'
          have k4 : Fit 36 ((x * y) * z) (sp 4) w' := (hdp 4 (List.mem_of_elem_eq_true (by kernel_rfl))).2
          have k9 : Fit 36 (x * (y * z)) (sp 9) w' := (hdp 9 (List.mem_of_elem_eq_true (by kernel_rfl))).2
          (with_reducible refine asked_call (w1 := w') (f := 35) (args := #[sp 4, sp 9]) ?_ ?_ ?_)
          · simp [Region.wanted, yielded, Act.put, go_sem]
          · simp [Act.eval, Act.put, go_sem]
          · refine (cmp_fit k4 k9 (by decide) (by decide)).mono ?_
            rintro e w5 ⟨u, rfl, hu, hb⟩
            exact ⟨u, rfl, hb, hu.trans (congrArg _ (by rw [show ((x * y) * z) = (x * (y * z)) from by first | rfl | ac_rfl | exact Nat.mul_add _ _ _ | (simp only [Nat.mul_add, Nat.add_mul]; ac_rfl) | omega, cmpI_self])), hbx'.later hb⟩
        case refine_17 =>
          intro D sp w' hD hW hdp hbx'
          (with_reducible refine asked_call (w1 := w') (f := 27) (args := #[.agg #[.slice pb nb cb], .agg #[.slice pc nc cc]]) ?_ ?_ ?_)
          · simp [Region.wanted, yielded, Act.put, go_sem]
          · simp [Act.eval, Act.put, go_sem]
          · refine (add_fit ((hB4).below (hbx'.bel)) ((hC4).below (hbx'.bel)) (by decide) (by decide)).mono ?_
            rintro e w5 ⟨u, rfl, hu, hb⟩
            exact ⟨u, rfl, hb, hu, hbx'.later hb⟩
        case refine_18 =>
          intro D sp w' hD hW hdp hbx'
          have k16 : Fit 25 (y + z) (sp 16) w' := (hdp 16 (List.mem_of_elem_eq_true (by kernel_rfl))).2
          (with_reducible refine asked_call (w1 := w') (f := 29) (args := #[.agg #[.slice pa na ca], sp 16]) ?_ ?_ ?_)
          · simp [Region.wanted, yielded, Act.put, go_sem]
          · simp [Act.eval, Act.put, go_sem]
          · refine (mul_fit ((hA4).below (hbx'.bel)) k16 (by decide) (by decide)).mono ?_
            rintro e w5 ⟨u, rfl, hu, hb⟩
            exact ⟨u, rfl, hb, hu, hbx'.later hb⟩
        case refine_21 =>
          intro D sp w' hD hW hdp hbx'
          (with_reducible refine asked_call (w1 := w') (f := 29) (args := #[.agg #[.slice pa na ca], .agg #[.slice pb nb cb]]) ?_ ?_ ?_)
          · simp [Region.wanted, yielded, Act.put, go_sem]
          · simp [Act.eval, Act.put, go_sem]
          · refine (mul_fit ((hA4).below (hbx'.bel)) ((hB4).below (hbx'.bel)) (by decide) (by decide)).mono ?_
            rintro e w5 ⟨u, rfl, hu, hb⟩
            exact ⟨u, rfl, hb, hu, hbx'.later hb⟩
        case refine_24 =>
          intro D sp w' hD hW hdp hbx'
          (with_reducible refine asked_call (w1 := w') (f := 29) (args := #[.agg #[.slice pa na ca], .agg #[.slice pc nc cc]]) ?_ ?_ ?_)
          · simp [Region.wanted, yielded, Act.put, go_sem]
          · simp [Act.eval, Act.put, go_sem]
          · refine (mul_fit ((hA4).below (hbx'.bel)) ((hC4).below (hbx'.bel)) (by decide) (by decide)).mono ?_
            rintro e w5 ⟨u, rfl, hu, hb⟩
            exact ⟨u, rfl, hb, hu, hbx'.later hb⟩
        case refine_25 =>
          intro D sp w' hD hW hdp hbx'
          have k20 : Fit 24 (x * y) (sp 20) w' := (hdp 20 (List.mem_of_elem_eq_true (by kernel_rfl))).2
          have k23 : Fit 24 (x * z) (sp 23) w' := (hdp 23 (List.mem_of_elem_eq_true (by kernel_rfl))).2
          (with_reducible refine asked_call (w1 := w') (f := 27) (args := #[sp 20, sp 23]) ?_ ?_ ?_)
          · simp [Region.wanted, yielded, Act.put, go_sem]
          · simp [Act.eval, Act.put, go_sem]
          · refine (add_fit k20 k23 (by decide) (by decide)).mono ?_
            rintro e w5 ⟨u, rfl, hu, hb⟩
            exact ⟨u, rfl, hb, hu, hbx'.later hb⟩
        case refine_26 =>
          intro D sp w' hD hW hdp hbx'
          have k17 : Fit 37 (x * (y + z)) (sp 17) w' := (hdp 17 (List.mem_of_elem_eq_true (by kernel_rfl))).2
          have k24 : Fit 49 ((x * y) + (x * z)) (sp 24) w' := (hdp 24 (List.mem_of_elem_eq_true (by kernel_rfl))).2
          (with_reducible refine asked_call (w1 := w') (f := 35) (args := #[sp 17, sp 24]) ?_ ?_ ?_)
          · simp [Region.wanted, yielded, Act.put, go_sem]
          · simp [Act.eval, Act.put, go_sem]
          · refine (cmp_fit k17 k24 (by decide) (by decide)).mono ?_
            rintro e w5 ⟨u, rfl, hu, hb⟩
            exact ⟨u, rfl, hb, hu.trans (congrArg _ (by rw [show (x * (y + z)) = ((x * y) + (x * z)) from by first | rfl | ac_rfl | exact Nat.mul_add _ _ _ | (simp only [Nat.mul_add, Nat.add_mul]; ac_rfl) | omega, cmpI_self])), hbx'.later hb⟩
        case refine_12 =>
          intro D sp w' hD hW hdp hbx'
          have k10 : sp 10 = .int .i64 (0) := (hdp 10 (List.mem_of_elem_eq_true (by kernel_rfl))).2
          simp [asked, Region.wanted, yielded, Oper.gives, execOp, Act.eval, Act.put, go_sem, k10]
        case refine_27 =>
          intro D sp w' hD hW hdp hbx'
          have k25 : sp 25 = .int .i64 (0) := (hdp 25 (List.mem_of_elem_eq_true (by kernel_rfl))).2
          simp [asked, Region.wanted, yielded, Oper.gives, execOp, Act.eval, Act.put, go_sem, k25]
        all_goals
          intro D sp w' hD hW hdp hbx'
          have c0 := (hLc w' hbx').1
          have c1 := (hLc w' hbx').2.1
          have c2 := (hLc w' hbx').2.2.1
          have c3 := (hLc w' hbx').2.2.2
          simp [asked, Region.wanted, yielded, Oper.gives, execOp, Act.eval, Act.put, go_sem, c0, c1, c2, c3]
      · intro sp w' hsp hbx'
        clear hsp
        simp only [frameOf, Nat.reduceAdd]
        generalize sp 2 = u2 at *
        generalize sp 4 = u4 at *
        generalize sp 8 = u8 at *
        generalize sp 9 = u9 at *
        generalize sp 10 = u10 at *
        generalize sp 16 = u16 at *
        generalize sp 17 = u17 at *
        generalize sp 20 = u20 at *
        generalize sp 23 = u23 at *
        generalize sp 24 = u24 at *
        generalize sp 25 = u25 at *
        go_simp
        go_wp2
        go_ret
        exact ⟨rfl, hbw4.trans (hbx'.bel.mono hbw4.size)⟩

end Go.Proofs.Ytgmbaamfmjekjaa
