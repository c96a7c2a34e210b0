/- The law of the numbers' order. -/
import Derived.Test.YtgmbaamfmjekjaaFit2
namespace Go.Proofs.Ytgmbaamfmjekjaa
open Go Go.RowKit Go.Proofs.Ytgmbaamfmjekjaa.Flow

set_option maxHeartbeats 4000000 in
set_option maxRecDepth 1000000 in
theorem orders_calls (w : World) (px : Option Addr) (nx cx : Nat) (X : List Nat) (py : Option Addr) (ny cy : Nat) (Y : List Nat) (pz : Option Addr) (nz cz : Nat) (Z : List Nat)
    (hX : RowIn w .u8 px nx cx X) (hX8 : Bytes8 X) (hY : RowIn w .u8 py ny cy Y) (hY8 : Bytes8 Y) (hZ : RowIn w .u8 pz nz cz Z) (hZ8 : Bytes8 Z) :
    Calls Try.prog 11 #[.slice px nx cx, .slice py ny cy, .slice pz nz cz] w fun e w' => e = .returned (.bool true) ∧ Below w.heap.size w w' := by
  go_enter Try.func11, Try.ntmps11
  go_wp2_with fail
  refine (lives_calls _).mono ?_
  rintro e w0 ⟨rfl, hb0⟩
  go_wp2_with fail
  refine (num_fit (hX.below hb0) hX8).mono ?_
  rintro e w1 ⟨pa, na, ca, rfl, hA, hb1⟩
  go_wp2_with fail
  refine (num_fit ((hY.below hb0).below hb1) hY8).mono ?_
  rintro e w2 ⟨pb, nb, cb, rfl, hB, hb2⟩
  go_wp2_with fail
  refine (num_fit (((hZ.below hb0).below hb1).below hb2) hZ8).mono ?_
  rintro e w3 ⟨pc, nc, cc, rfl, hC, hb3⟩
  replace hA := (hA.below hb2).below hb3
  replace hB := hB.below hb3
  have hbw : Below w.heap.size w w3 := ((hb0.trans (hb1.mono hb0.size)).trans (hb2.mono (Nat.le_trans hb0.size hb1.size))).trans (hb3.mono (Nat.le_trans hb0.size (Nat.le_trans hb1.size hb2.size)))
  clear hX hY hZ hb0 hb1 hb2 hb3
  generalize numOf X = x at *
  generalize numOf Y = y at *
  generalize numOf Z = z at *
  obtain ⟨K, hK'⟩ : ∃ K, cmpI x y = K := ⟨_, rfl⟩
  have hK := Lib.hid hK'
  have hKr := Lib.hid (cmpI_range x y)
  rw [hK'] at hKr
  obtain ⟨E, hE⟩ : ∃ E, (K == 0) = E := ⟨_, rfl⟩
  have fE2 : decide (K = 0) = E := by rw [← hE]; rfl
  have fE := hE
  have hEx : ((leastStr x).data.toList == (leastStr y).data.toList) = E := by
    rw [← hE, Bool.eq_iff_iff]
    simp only [beq_iff_eq]
    rw [← hK', cmpI_zero]
    exact ⟨leastStr_inj, fun h => by rw [h]⟩
  have fE3 : ((leastStr x).toList == (leastStr y).toList) = E := by rw [ByteArray.toList_eq, ByteArray.toList_eq]; exact hEx
  have fE4 : decide ((leastStr x).toList = (leastStr y).toList) = E := by rw [← fE3, Bool.eq_iff_iff]; simp
  have fK : IntKind.i64.wrap K = K := IntWalk.i64_in _ (by have := hKr.out; omega)
  have fK2 : wrap64 K = K := IntWalk.wrap64_in _ (by have := hKr.out; omega)
  clear hK' hE hEx
  have hbx := Boxes3.mk3 w3 (.slice pa na ca) (.slice pb nb cb) (.slice pc nc cc) 26 26 26
  go_wp2
  refine wp_region_duties (by kernel_rfl) (by kernel_rfl)
    [some (.agg #[.slice pa na ca]), some (.agg #[.slice pb nb cb]), none, some (.agg #[.slice pb nb cb]), some (.agg #[.slice pa na ca]), none, some (.int .i64 K), some (.bool false), some (.bool false), some (.agg #[.slice pa na ca]), some (.agg #[.slice pb nb cb]), none, some (.bool E), some (.agg #[.slice pa na ca]), none, some (.string (leastStr x)), some (.agg #[.slice pb nb cb]), none, some (.string (leastStr y)), some (.bool E), some (.bool false), some (.bool false)]
    [false, false, true, false, false, true, false, false, false, false, false, true, false, false, true, false, false, true, false, false, false, false] rfl
    (fun w1 w2 => Below w1.heap.size w1 w2)
    (fun _ w' => Boxes3 w3 w' (.slice pa na ca) (.slice pb nb cb) (.slice pc nc cc))
    (fun i v w' => match i with
        | 2 => v = .int .i64 (K)
        | 5 => v = .int .i64 (-K)
        | 11 => v = .int .i64 (K)
        | 14 => LeastVal x v w'
        | 17 => LeastVal y v w'
        | _ => True)
    ?_ (hbx.below (Below.refl _ _).drew (Nat.le_refl _)) ?_ ?_
  · intro i v w1 w2 hf hb
    split at hf <;> first | exact hf | exact Fit.below hf hb | exact LeastVal.below hf hb
  · simp only [Duties, Nat.reduceAdd]
    refine ⟨?_, ?_, ?_, ?_, ?_, ?_, ?_, ?_, ?_, ?_, ?_, ?_, ?_, ?_, ?_, ?_, ?_, ?_, ?_, ?_, ?_, ?_, trivial⟩
    case refine_3 =>
      intro D sp w' hD hW hdp hbx'
      (with_reducible refine asked_call (w1 := w') (f := 35) (args := #[.agg #[.slice pa na ca], .agg #[.slice pb nb cb]]) ?_ ?_ ?_)
      · simp [Region.wanted, go_sem]
      · simp [Act.eval, Act.put, go_sem]
      · refine (cmp_fit ((hA).below (hbx'.bel)) ((hB).below (hbx'.bel)) (by decide) (by decide)).mono ?_
        rintro e w5 ⟨u, rfl, hu, hb⟩
        exact ⟨u, rfl, hb, hu.trans (congrArg _ (hK.out)), hbx'.later hb⟩
    case refine_6 =>
      intro D sp w' hD hW hdp hbx'
      (with_reducible refine asked_call (w1 := w') (f := 35) (args := #[.agg #[.slice pb nb cb], .agg #[.slice pa na ca]]) ?_ ?_ ?_)
      · simp [Region.wanted, go_sem]
      · simp [Act.eval, Act.put, go_sem]
      · refine (cmp_fit ((hB).below (hbx'.bel)) ((hA).below (hbx'.bel)) (by decide) (by decide)).mono ?_
        rintro e w5 ⟨u, rfl, hu, hb⟩
        exact ⟨u, rfl, hb, hu.trans (congrArg _ ((cmpI_swap x y).trans (congrArg _ hK.out))), hbx'.later hb⟩
    case refine_12 =>
      intro D sp w' hD hW hdp hbx'
      (with_reducible refine asked_call (w1 := w') (f := 35) (args := #[.agg #[.slice pa na ca], .agg #[.slice pb nb cb]]) ?_ ?_ ?_)
      · simp [Region.wanted, yielded, Act.put, go_sem]
      · simp [Act.eval, Act.put, go_sem]
      · refine (cmp_fit ((hA).below (hbx'.bel)) ((hB).below (hbx'.bel)) (by decide) (by decide)).mono ?_
        rintro e w5 ⟨u, rfl, hu, hb⟩
        exact ⟨u, rfl, hb, hu.trans (congrArg _ (hK.out)), hbx'.later hb⟩
    case refine_15 =>
      intro D sp w' hD hW hdp hbx'
      (with_reducible refine asked_call (w1 := w') (f := 38) (args := #[.agg #[.slice pa na ca]]) ?_ ?_ ?_)
      · simp [Region.wanted, yielded, Act.put, go_sem]
      · simp [Act.eval, Act.put, go_sem]
      · refine (least_fit ((hA).below (hbx'.bel)) (by decide)).mono ?_
        rintro e w5 ⟨u, rfl, hu, hb⟩
        exact ⟨u, rfl, hb, hu, hbx'.later hb⟩
    case refine_18 =>
      intro D sp w' hD hW hdp hbx'
      (with_reducible refine asked_call (w1 := w') (f := 38) (args := #[.agg #[.slice pb nb cb]]) ?_ ?_ ?_)
      · simp [Region.wanted, yielded, Act.put, go_sem]
      · simp [Act.eval, Act.put, go_sem]
      · refine (least_fit ((hB).below (hbx'.bel)) (by decide)).mono ?_
        rintro e w5 ⟨u, rfl, hu, hb⟩
        exact ⟨u, rfl, hb, hu, hbx'.later hb⟩
    case refine_7 =>
      intro D sp w' hD hW hdp hbx'
      have k5 : sp 5 = .int .i64 (-K) := (hdp 5 (List.mem_of_elem_eq_true (by kernel_rfl))).2
      simp [asked, Region.wanted, Oper.gives, execOp, Act.eval, Act.put, go_sem, k5, fK]
    case refine_8 =>
      intro D sp w' hD hW hdp hbx'
      have k2 : sp 2 = .int .i64 (K) := (hdp 2 (List.mem_of_elem_eq_true (by kernel_rfl))).2
      simp [asked, Region.wanted, Oper.gives, execOp, Act.eval, Act.put, go_sem, k2]
    case refine_13 =>
      intro D sp w' hD hW hdp hbx'
      have k11 : sp 11 = .int .i64 (K) := (hdp 11 (List.mem_of_elem_eq_true (by kernel_rfl))).2
      simp [asked, Region.wanted, yielded, Oper.gives, execOp, Act.eval, Act.put, go_sem, k11, fE]
    case refine_16 =>
      intro D sp w' hD hW hdp hbx'
      have k14 : LeastVal x (sp 14) w' := (hdp 14 (List.mem_of_elem_eq_true (by kernel_rfl))).2
      have hc := leastStr_conv k14
      simp [asked, Region.wanted, yielded, Oper.gives, execOp, Act.eval, Act.put, go_sem, hc]
    case refine_19 =>
      intro D sp w' hD hW hdp hbx'
      have k17 : LeastVal y (sp 17) w' := (hdp 17 (List.mem_of_elem_eq_true (by kernel_rfl))).2
      have hc := leastStr_conv k17
      simp [asked, Region.wanted, yielded, Oper.gives, execOp, Act.eval, Act.put, go_sem, hc]
    all_goals
      intro D sp w' hD hW hdp hbx'
      have c0 := hbx'.c0
      have c1 := hbx'.c1
      have c2 := hbx'.c2
      simp [asked, Region.wanted, yielded, Oper.gives, execOp, Act.eval, Act.put, go_sem, c0, c1, fE3]
  · intro sp w4 hsp hbx'
    clear hsp
    simp only [frameOf, Nat.reduceAdd]
    generalize sp 2 = u2 at *
    generalize sp 5 = u5 at *
    generalize sp 11 = u11 at *
    generalize sp 14 = u14 at *
    generalize sp 17 = u17 at *
    go_simp
    have hbx4 := hbx'
    clear hbx' fE fE2 fE3 fE4 fK fK2
    go_wp2
    by_cases hz' : z = 0
    · have hz := Lib.hid hz'
      clear hz'
      refine wp_region_duties (by kernel_rfl) (by kernel_rfl)
        [some (.agg #[.slice pa na ca]), some (.agg #[.slice pc nc cc]), none, some (.agg #[.slice pb nb cb]), some (.agg #[.slice pc nc cc]), none, none, some (.agg #[.slice pa na ca]), some (.agg #[.slice pb nb cb]), none, some (.bool false), some (.bool false), some (.agg #[.slice pc nc cc]), none, some (.bool false), some (.bool false), some undef, some undef, some undef, some undef, some undef, some undef, some undef, some undef, some undef, some undef, some undef, some (.bool false), some (.bool false)]
        [false, false, true, false, false, true, true, false, false, true, false, false, false, true, false, false, false, false, false, false, false, false, false, false, false, false, false, false, false] rfl
        (fun w1 w2 => Below w1.heap.size w1 w2)
        (fun _ w' => Boxes3 w3 w' (.slice pa na ca) (.slice pb nb cb) (.slice pc nc cc))
        (fun i v w' => match i with
            | 2 => Fit 25 (x + z) v w'
            | 5 => Fit 25 (y + z) v w'
            | 6 => v = .int .i64 (K)
            | 9 => v = .int .i64 (K)
            | 13 => v = .bool (true)
            | _ => True)
        ?_ (hbx4.below (Below.refl _ _).drew (Nat.le_refl _)) ?_ ?_
      · intro i v w1 w2 hf hb
        split at hf <;> first | exact hf | exact Fit.below hf hb | exact LeastVal.below hf hb
      · simp only [Duties, Nat.reduceAdd]
        refine ⟨?_, ?_, ?_, ?_, ?_, ?_, ?_, ?_, ?_, ?_, ?_, ?_, ?_, ?_, ?_, ?_, ?_, ?_, ?_, ?_, ?_, ?_, ?_, ?_, ?_, ?_, ?_, ?_, ?_, trivial⟩
        case refine_3 =>
          intro D sp w' hD hW hdp hbx'
          (with_reducible refine asked_call (w1 := w') (f := 27) (args := #[.agg #[.slice pa na ca], .agg #[.slice pc nc cc]]) ?_ ?_ ?_)
          · simp [Region.wanted, go_sem]
          · simp [Act.eval, Act.put, go_sem]
          · refine (add_fit ((hA).below (hbx'.bel)) ((hC).below (hbx'.bel)) (by decide) (by decide)).mono ?_
            rintro e w5 ⟨u, rfl, hu, hb⟩
            exact ⟨u, rfl, hb, hu, hbx'.later hb⟩
        case refine_6 =>
          intro D sp w' hD hW hdp hbx'
          (with_reducible refine asked_call (w1 := w') (f := 27) (args := #[.agg #[.slice pb nb cb], .agg #[.slice pc nc cc]]) ?_ ?_ ?_)
          · simp [Region.wanted, go_sem]
          · simp [Act.eval, Act.put, go_sem]
          · refine (add_fit ((hB).below (hbx'.bel)) ((hC).below (hbx'.bel)) (by decide) (by decide)).mono ?_
            rintro e w5 ⟨u, rfl, hu, hb⟩
            exact ⟨u, rfl, hb, hu, hbx'.later hb⟩
        case refine_7 =>
          intro D sp w' hD hW hdp hbx'
          have k2 : Fit 25 (x + z) (sp 2) w' := (hdp 2 (List.mem_of_elem_eq_true (by kernel_rfl))).2
          have k5 : Fit 25 (y + z) (sp 5) w' := (hdp 5 (List.mem_of_elem_eq_true (by kernel_rfl))).2
          (with_reducible refine asked_call (w1 := w') (f := 35) (args := #[sp 2, sp 5]) ?_ ?_ ?_)
          · simp [Region.wanted, go_sem]
          · simp [Act.eval, Act.put, go_sem]
          · refine (cmp_fit k2 k5 (by decide) (by decide)).mono ?_
            rintro e w5 ⟨u, rfl, hu, hb⟩
            exact ⟨u, rfl, hb, hu.trans (congrArg _ ((cmpI_add x y z).trans hK.out)), hbx'.later hb⟩
        case refine_10 =>
          intro D sp w' hD hW hdp hbx'
          (with_reducible refine asked_call (w1 := w') (f := 35) (args := #[.agg #[.slice pa na ca], .agg #[.slice pb nb cb]]) ?_ ?_ ?_)
          · simp [Region.wanted, go_sem]
          · simp [Act.eval, Act.put, go_sem]
          · refine (cmp_fit ((hA).below (hbx'.bel)) ((hB).below (hbx'.bel)) (by decide) (by decide)).mono ?_
            rintro e w5 ⟨u, rfl, hu, hb⟩
            exact ⟨u, rfl, hb, hu.trans (congrArg _ (hK.out)), hbx'.later hb⟩
        case refine_14 =>
          intro D sp w' hD hW hdp hbx'
          (with_reducible refine asked_call (w1 := w') (f := 25) (args := #[.agg #[.slice pc nc cc]]) ?_ ?_ ?_)
          · simp [Region.wanted, yielded, Act.put, go_sem]
          · simp [Act.eval, Act.put, go_sem]
          · refine (zero_fit ((hC).below (hbx'.bel))).mono ?_
            rintro e w5 ⟨u, rfl, hu, hb⟩
            exact ⟨u, rfl, hb, hu.trans (congrArg _ (by simp [hz.out])), hbx'.later hb⟩
        case refine_11 =>
          intro D sp w' hD hW hdp hbx'
          have k6 : sp 6 = .int .i64 (K) := (hdp 6 (List.mem_of_elem_eq_true (by kernel_rfl))).2
          have k9 : sp 9 = .int .i64 (K) := (hdp 9 (List.mem_of_elem_eq_true (by kernel_rfl))).2
          simp [asked, Region.wanted, Oper.gives, execOp, Act.eval, Act.put, go_sem, k6, k9]
        case refine_15 =>
          intro D sp w' hD hW hdp hbx'
          have k13 : sp 13 = .bool (true) := (hdp 13 (List.mem_of_elem_eq_true (by kernel_rfl))).2
          simp [asked, Region.wanted, yielded, Oper.gives, execOp, Act.eval, Act.put, go_sem, k13]
        all_goals
          intro D sp w' hD hW hdp hbx'
          have c0 := hbx'.c0
          have c1 := hbx'.c1
          have c2 := hbx'.c2
          simp [asked, Region.wanted, yielded, Oper.gives, execOp, Act.eval, Act.put, go_sem, c0, c1, c2]
      · intro sp w5 hsp hbx'
        clear hsp
        simp only [frameOf, Nat.reduceAdd]
        generalize sp 2 = u2 at *
        generalize sp 5 = u5 at *
        generalize sp 6 = u6 at *
        generalize sp 9 = u9 at *
        generalize sp 13 = u13 at *
        go_simp
        have hbx5 := hbx'
        clear hbx'
        go_wp2
        by_cases h1 : 0 < K
        · have g1 : (0 < K) = True := by simp [h1]
          have H1 := Lib.hid h1
          clear h1
          refine wp_region_duties (by kernel_rfl) (by kernel_rfl)
            [some (.agg #[.slice pa na ca]), none, none, some (.agg #[.slice pa na ca]), none, some (.bool true), some (.bool true), some (.agg #[.slice pa na ca]), some (.agg #[.slice pb nb cb]), none, some (.bool true), some (.bool true), some undef, some undef, some undef, some undef, some (.bool true), some (.bool true), some undef, some undef, some undef, some undef, some (.bool true), some (.bool true), some (.bool true)]
            [false, true, true, false, true, false, false, false, false, true, false, false, false, false, false, false, false, false, false, false, false, false, false, false, false] rfl
            (fun w1 w2 => Below w1.heap.size w1 w2)
            (fun _ w' => Boxes3 w3 w' (.slice pa na ca) (.slice pb nb cb) (.slice pc nc cc))
            (fun i v w' => match i with
                | 1 => Fit 1 1 v w'
                | 2 => Fit 14 (x + 1) v w'
                | 4 => v = .int .i64 (1)
                | 9 => v = .int .i64 (K)
                | _ => True)
            ?_ (hbx5.below (Below.refl _ _).drew (Nat.le_refl _)) ?_ ?_
          · intro i v w1 w2 hf hb
            split at hf <;> first | exact hf | exact Fit.below hf hb | exact LeastVal.below hf hb
          · simp only [Duties, Nat.reduceAdd]
            refine ⟨?_, ?_, ?_, ?_, ?_, ?_, ?_, ?_, ?_, ?_, ?_, ?_, ?_, ?_, ?_, ?_, ?_, ?_, ?_, ?_, ?_, ?_, ?_, ?_, ?_, trivial⟩
            case refine_2 =>
              intro D sp w' hD hW hdp hbx'
              (with_reducible refine asked_call (w1 := w') (f := 18) (args := #[.int .u64 1]) ?_ ?_ ?_)
              · simp [Region.wanted, go_sem]
              · simp [Act.eval, Act.put, go_sem]
              · refine (one_fit w' ).mono ?_
                rintro e w5 ⟨u, rfl, hu, hb⟩
                exact ⟨u, rfl, hb, hu, hbx'.later hb⟩
            case refine_3 =>
              intro D sp w' hD hW hdp hbx'
              have k1 : Fit 1 1 (sp 1) w' := (hdp 1 (List.mem_of_elem_eq_true (by kernel_rfl))).2
              (with_reducible refine asked_call (w1 := w') (f := 27) (args := #[.agg #[.slice pa na ca], sp 1]) ?_ ?_ ?_)
              · simp [Region.wanted, go_sem]
              · simp [Act.eval, Act.put, go_sem]
              · refine (add_fit ((hA).below (hbx'.bel)) k1 (by decide) (by decide)).mono ?_
                rintro e w5 ⟨u, rfl, hu, hb⟩
                exact ⟨u, rfl, hb, hu, hbx'.later hb⟩
            case refine_5 =>
              intro D sp w' hD hW hdp hbx'
              have k2 : Fit 14 (x + 1) (sp 2) w' := (hdp 2 (List.mem_of_elem_eq_true (by kernel_rfl))).2
              (with_reducible refine asked_call (w1 := w') (f := 35) (args := #[sp 2, .agg #[.slice pa na ca]]) ?_ ?_ ?_)
              · simp [Region.wanted, go_sem]
              · simp [Act.eval, Act.put, go_sem]
              · refine (cmp_fit k2 ((hA).below (hbx'.bel)) (by decide) (by decide)).mono ?_
                rintro e w5 ⟨u, rfl, hu, hb⟩
                exact ⟨u, rfl, hb, hu.trans (congrArg _ (cmpI_up x)), hbx'.later hb⟩
            case refine_10 =>
              intro D sp w' hD hW hdp hbx'
              (with_reducible refine asked_call (w1 := w') (f := 35) (args := #[.agg #[.slice pa na ca], .agg #[.slice pb nb cb]]) ?_ ?_ ?_)
              · simp [Region.wanted, yielded, Act.put, go_sem]
              · simp [Act.eval, Act.put, go_sem]
              · refine (cmp_fit ((hA).below (hbx'.bel)) ((hB).below (hbx'.bel)) (by decide) (by decide)).mono ?_
                rintro e w5 ⟨u, rfl, hu, hb⟩
                exact ⟨u, rfl, hb, hu.trans (congrArg _ (hK.out)), hbx'.later hb⟩
            case refine_6 =>
              intro D sp w' hD hW hdp hbx'
              have k4 : sp 4 = .int .i64 (1) := (hdp 4 (List.mem_of_elem_eq_true (by kernel_rfl))).2
              simp [asked, Region.wanted, Oper.gives, execOp, Act.eval, Act.put, go_sem, k4]
            case refine_11 =>
              intro D sp w' hD hW hdp hbx'
              have k9 : sp 9 = .int .i64 (K) := (hdp 9 (List.mem_of_elem_eq_true (by kernel_rfl))).2
              simp [asked, Region.wanted, yielded, Oper.gives, execOp, Act.eval, Act.put, go_sem, k9, g1]
            all_goals
              intro D sp w' hD hW hdp hbx'
              have c0 := hbx'.c0
              have c1 := hbx'.c1
              have c2 := hbx'.c2
              simp [asked, Region.wanted, yielded, Oper.gives, execOp, Act.eval, Act.put, go_sem, c0, c1]
          · intro sp w6 hsp hbx'
            clear hsp
            simp only [frameOf, Nat.reduceAdd]
            generalize sp 1 = u1 at *
            generalize sp 2 = u2 at *
            generalize sp 4 = u4 at *
            generalize sp 9 = u9 at *
            go_simp
            go_wp2
            go_ret
            exact ⟨rfl, hbw.trans (hbx'.bel.mono hbw.size)⟩
        · have g1 : (0 < K) = False := by simp [h1]
          have hxy : x ≤ y := by
            have : ¬ y < x := fun h => h1 (hK.out ▸ cmpI_pos.2 h)
            omega
          obtain ⟨K2, hK2'⟩ : ∃ K2, cmpI y z = K2 := ⟨_, rfl⟩
          have hK2 := Lib.hid hK2'
          by_cases h2 : 0 < K2
          · have g2 : (0 < K2) = True := by simp [h2]
            clear h1 h2 hK2' hxy
            refine wp_region_duties (by kernel_rfl) (by kernel_rfl)
              [some (.agg #[.slice pa na ca]), none, none, some (.agg #[.slice pa na ca]), none, some (.bool true), some (.bool true), some (.agg #[.slice pa na ca]), some (.agg #[.slice pb nb cb]), none, some (.bool false), some (.bool false), some (.agg #[.slice pb nb cb]), some (.agg #[.slice pc nc cc]), none, some (.bool true), some (.bool true), some (.bool true), some undef, some undef, some undef, some undef, some (.bool true), some (.bool true), some (.bool true)]
              [false, true, true, false, true, false, false, false, false, true, false, false, false, false, true, false, false, false, false, false, false, false, false, false, false] rfl
              (fun w1 w2 => Below w1.heap.size w1 w2)
              (fun _ w' => Boxes3 w3 w' (.slice pa na ca) (.slice pb nb cb) (.slice pc nc cc))
              (fun i v w' => match i with
                  | 1 => Fit 1 1 v w'
                  | 2 => Fit 14 (x + 1) v w'
                  | 4 => v = .int .i64 (1)
                  | 9 => v = .int .i64 (K)
                  | 14 => v = .int .i64 (K2)
                  | _ => True)
              ?_ (hbx5.below (Below.refl _ _).drew (Nat.le_refl _)) ?_ ?_
            · intro i v w1 w2 hf hb
              split at hf <;> first | exact hf | exact Fit.below hf hb | exact LeastVal.below hf hb
            · simp only [Duties, Nat.reduceAdd]
              refine ⟨?_, ?_, ?_, ?_, ?_, ?_, ?_, ?_, ?_, ?_, ?_, ?_, ?_, ?_, ?_, ?_, ?_, ?_, ?_, ?_, ?_, ?_, ?_, ?_, ?_, trivial⟩
              case refine_2 =>
                intro D sp w' hD hW hdp hbx'
                (with_reducible refine asked_call (w1 := w') (f := 18) (args := #[.int .u64 1]) ?_ ?_ ?_)
                · simp [Region.wanted, go_sem]
                · simp [Act.eval, Act.put, go_sem]
                · refine (one_fit w' ).mono ?_
                  rintro e w5 ⟨u, rfl, hu, hb⟩
                  exact ⟨u, rfl, hb, hu, hbx'.later hb⟩
              case refine_3 =>
                intro D sp w' hD hW hdp hbx'
                have k1 : Fit 1 1 (sp 1) w' := (hdp 1 (List.mem_of_elem_eq_true (by kernel_rfl))).2
                (with_reducible refine asked_call (w1 := w') (f := 27) (args := #[.agg #[.slice pa na ca], sp 1]) ?_ ?_ ?_)
                · simp [Region.wanted, go_sem]
                · simp [Act.eval, Act.put, go_sem]
                · refine (add_fit ((hA).below (hbx'.bel)) k1 (by decide) (by decide)).mono ?_
                  rintro e w5 ⟨u, rfl, hu, hb⟩
                  exact ⟨u, rfl, hb, hu, hbx'.later hb⟩
              case refine_5 =>
                intro D sp w' hD hW hdp hbx'
                have k2 : Fit 14 (x + 1) (sp 2) w' := (hdp 2 (List.mem_of_elem_eq_true (by kernel_rfl))).2
                (with_reducible refine asked_call (w1 := w') (f := 35) (args := #[sp 2, .agg #[.slice pa na ca]]) ?_ ?_ ?_)
                · simp [Region.wanted, go_sem]
                · simp [Act.eval, Act.put, go_sem]
                · refine (cmp_fit k2 ((hA).below (hbx'.bel)) (by decide) (by decide)).mono ?_
                  rintro e w5 ⟨u, rfl, hu, hb⟩
                  exact ⟨u, rfl, hb, hu.trans (congrArg _ (cmpI_up x)), hbx'.later hb⟩
              case refine_10 =>
                intro D sp w' hD hW hdp hbx'
                (with_reducible refine asked_call (w1 := w') (f := 35) (args := #[.agg #[.slice pa na ca], .agg #[.slice pb nb cb]]) ?_ ?_ ?_)
                · simp [Region.wanted, yielded, Act.put, go_sem]
                · simp [Act.eval, Act.put, go_sem]
                · refine (cmp_fit ((hA).below (hbx'.bel)) ((hB).below (hbx'.bel)) (by decide) (by decide)).mono ?_
                  rintro e w5 ⟨u, rfl, hu, hb⟩
                  exact ⟨u, rfl, hb, hu.trans (congrArg _ (hK.out)), hbx'.later hb⟩
              case refine_15 =>
                intro D sp w' hD hW hdp hbx'
                (with_reducible refine asked_call (w1 := w') (f := 35) (args := #[.agg #[.slice pb nb cb], .agg #[.slice pc nc cc]]) ?_ ?_ ?_)
                · simp [Region.wanted, yielded, Act.put, go_sem]
                · simp [Act.eval, Act.put, go_sem]
                · refine (cmp_fit ((hB).below (hbx'.bel)) ((hC).below (hbx'.bel)) (by decide) (by decide)).mono ?_
                  rintro e w5 ⟨u, rfl, hu, hb⟩
                  exact ⟨u, rfl, hb, hu.trans (congrArg _ (hK2.out)), hbx'.later hb⟩
              case refine_6 =>
                intro D sp w' hD hW hdp hbx'
                have k4 : sp 4 = .int .i64 (1) := (hdp 4 (List.mem_of_elem_eq_true (by kernel_rfl))).2
                simp [asked, Region.wanted, Oper.gives, execOp, Act.eval, Act.put, go_sem, k4]
              case refine_11 =>
                intro D sp w' hD hW hdp hbx'
                have k9 : sp 9 = .int .i64 (K) := (hdp 9 (List.mem_of_elem_eq_true (by kernel_rfl))).2
                simp [asked, Region.wanted, yielded, Oper.gives, execOp, Act.eval, Act.put, go_sem, k9, g1]
              case refine_16 =>
                intro D sp w' hD hW hdp hbx'
                have k14 : sp 14 = .int .i64 (K2) := (hdp 14 (List.mem_of_elem_eq_true (by kernel_rfl))).2
                simp [asked, Region.wanted, yielded, Oper.gives, execOp, Act.eval, Act.put, go_sem, k14, g2]
              all_goals
                intro D sp w' hD hW hdp hbx'
                have c0 := hbx'.c0
                have c1 := hbx'.c1
                have c2 := hbx'.c2
                simp [asked, Region.wanted, yielded, Oper.gives, execOp, Act.eval, Act.put, go_sem, c0, c1, c2]
            · intro sp w6 hsp hbx'
              clear hsp
              simp only [frameOf, Nat.reduceAdd]
              generalize sp 1 = u1 at *
              generalize sp 2 = u2 at *
              generalize sp 4 = u4 at *
              generalize sp 9 = u9 at *
              generalize sp 14 = u14 at *
              go_simp
              go_wp2
              go_ret
              exact ⟨rfl, hbw.trans (hbx'.bel.mono hbw.size)⟩
          · have g2 : (0 < K2) = False := by simp [h2]
            have hyz : y ≤ z := by
              have : ¬ z < y := fun h => h2 (hK2.out ▸ cmpI_pos.2 h)
              omega
            obtain ⟨K3, hK3'⟩ : ∃ K3, cmpI x z = K3 := ⟨_, rfl⟩
            have hK3 := Lib.hid hK3'
            have h3 : K3 ≤ 0 := by
              have : ¬ 0 < K3 := fun h => by have := cmpI_pos.1 (hK3' ▸ h); omega
              omega
            have g3 : (K3 ≤ 0) = True := by simp [h3]
            clear h1 h2 h3 hK2' hK3' hxy hyz
            refine wp_region_duties (by kernel_rfl) (by kernel_rfl)
              [some (.agg #[.slice pa na ca]), none, none, some (.agg #[.slice pa na ca]), none, some (.bool true), some (.bool true), some (.agg #[.slice pa na ca]), some (.agg #[.slice pb nb cb]), none, some (.bool false), some (.bool false), some (.agg #[.slice pb nb cb]), some (.agg #[.slice pc nc cc]), none, some (.bool false), some (.bool false), some (.bool false), some (.agg #[.slice pa na ca]), some (.agg #[.slice pc nc cc]), none, some (.bool true), some (.bool true), some (.bool true), some (.bool true)]
              [false, true, true, false, true, false, false, false, false, true, false, false, false, false, true, false, false, false, false, false, true, false, false, false, false] rfl
              (fun w1 w2 => Below w1.heap.size w1 w2)
              (fun _ w' => Boxes3 w3 w' (.slice pa na ca) (.slice pb nb cb) (.slice pc nc cc))
              (fun i v w' => match i with
                  | 1 => Fit 1 1 v w'
                  | 2 => Fit 14 (x + 1) v w'
                  | 4 => v = .int .i64 (1)
                  | 9 => v = .int .i64 (K)
                  | 14 => v = .int .i64 (K2)
                  | 20 => v = .int .i64 (K3)
                  | _ => True)
              ?_ (hbx5.below (Below.refl _ _).drew (Nat.le_refl _)) ?_ ?_
            · intro i v w1 w2 hf hb
              split at hf <;> first | exact hf | exact Fit.below hf hb | exact LeastVal.below hf hb
            · simp only [Duties, Nat.reduceAdd]
              refine ⟨?_, ?_, ?_, ?_, ?_, ?_, ?_, ?_, ?_, ?_, ?_, ?_, ?_, ?_, ?_, ?_, ?_, ?_, ?_, ?_, ?_, ?_, ?_, ?_, ?_, trivial⟩
              case refine_2 =>
                intro D sp w' hD hW hdp hbx'
                (with_reducible refine asked_call (w1 := w') (f := 18) (args := #[.int .u64 1]) ?_ ?_ ?_)
                · simp [Region.wanted, go_sem]
                · simp [Act.eval, Act.put, go_sem]
                · refine (one_fit w' ).mono ?_
                  rintro e w5 ⟨u, rfl, hu, hb⟩
                  exact ⟨u, rfl, hb, hu, hbx'.later hb⟩
              case refine_3 =>
                intro D sp w' hD hW hdp hbx'
                have k1 : Fit 1 1 (sp 1) w' := (hdp 1 (List.mem_of_elem_eq_true (by kernel_rfl))).2
                (with_reducible refine asked_call (w1 := w') (f := 27) (args := #[.agg #[.slice pa na ca], sp 1]) ?_ ?_ ?_)
                · simp [Region.wanted, go_sem]
                · simp [Act.eval, Act.put, go_sem]
                · refine (add_fit ((hA).below (hbx'.bel)) k1 (by decide) (by decide)).mono ?_
                  rintro e w5 ⟨u, rfl, hu, hb⟩
                  exact ⟨u, rfl, hb, hu, hbx'.later hb⟩
              case refine_5 =>
                intro D sp w' hD hW hdp hbx'
                have k2 : Fit 14 (x + 1) (sp 2) w' := (hdp 2 (List.mem_of_elem_eq_true (by kernel_rfl))).2
                (with_reducible refine asked_call (w1 := w') (f := 35) (args := #[sp 2, .agg #[.slice pa na ca]]) ?_ ?_ ?_)
                · simp [Region.wanted, go_sem]
                · simp [Act.eval, Act.put, go_sem]
                · refine (cmp_fit k2 ((hA).below (hbx'.bel)) (by decide) (by decide)).mono ?_
                  rintro e w5 ⟨u, rfl, hu, hb⟩
                  exact ⟨u, rfl, hb, hu.trans (congrArg _ (cmpI_up x)), hbx'.later hb⟩
              case refine_10 =>
                intro D sp w' hD hW hdp hbx'
                (with_reducible refine asked_call (w1 := w') (f := 35) (args := #[.agg #[.slice pa na ca], .agg #[.slice pb nb cb]]) ?_ ?_ ?_)
                · simp [Region.wanted, yielded, Act.put, go_sem]
                · simp [Act.eval, Act.put, go_sem]
                · refine (cmp_fit ((hA).below (hbx'.bel)) ((hB).below (hbx'.bel)) (by decide) (by decide)).mono ?_
                  rintro e w5 ⟨u, rfl, hu, hb⟩
                  exact ⟨u, rfl, hb, hu.trans (congrArg _ (hK.out)), hbx'.later hb⟩
              case refine_15 =>
                intro D sp w' hD hW hdp hbx'
                (with_reducible refine asked_call (w1 := w') (f := 35) (args := #[.agg #[.slice pb nb cb], .agg #[.slice pc nc cc]]) ?_ ?_ ?_)
                · simp [Region.wanted, yielded, Act.put, go_sem]
                · simp [Act.eval, Act.put, go_sem]
                · refine (cmp_fit ((hB).below (hbx'.bel)) ((hC).below (hbx'.bel)) (by decide) (by decide)).mono ?_
                  rintro e w5 ⟨u, rfl, hu, hb⟩
                  exact ⟨u, rfl, hb, hu.trans (congrArg _ (hK2.out)), hbx'.later hb⟩
              case refine_21 =>
                intro D sp w' hD hW hdp hbx'
                (with_reducible refine asked_call (w1 := w') (f := 35) (args := #[.agg #[.slice pa na ca], .agg #[.slice pc nc cc]]) ?_ ?_ ?_)
                · simp [Region.wanted, yielded, Act.put, go_sem]
                · simp [Act.eval, Act.put, go_sem]
                · refine (cmp_fit ((hA).below (hbx'.bel)) ((hC).below (hbx'.bel)) (by decide) (by decide)).mono ?_
                  rintro e w5 ⟨u, rfl, hu, hb⟩
                  exact ⟨u, rfl, hb, hu.trans (congrArg _ (hK3.out)), hbx'.later hb⟩
              case refine_6 =>
                intro D sp w' hD hW hdp hbx'
                have k4 : sp 4 = .int .i64 (1) := (hdp 4 (List.mem_of_elem_eq_true (by kernel_rfl))).2
                simp [asked, Region.wanted, Oper.gives, execOp, Act.eval, Act.put, go_sem, k4]
              case refine_11 =>
                intro D sp w' hD hW hdp hbx'
                have k9 : sp 9 = .int .i64 (K) := (hdp 9 (List.mem_of_elem_eq_true (by kernel_rfl))).2
                simp [asked, Region.wanted, yielded, Oper.gives, execOp, Act.eval, Act.put, go_sem, k9, g1]
              case refine_16 =>
                intro D sp w' hD hW hdp hbx'
                have k14 : sp 14 = .int .i64 (K2) := (hdp 14 (List.mem_of_elem_eq_true (by kernel_rfl))).2
                simp [asked, Region.wanted, yielded, Oper.gives, execOp, Act.eval, Act.put, go_sem, k14, g2]
              case refine_22 =>
                intro D sp w' hD hW hdp hbx'
                have k20 : sp 20 = .int .i64 (K3) := (hdp 20 (List.mem_of_elem_eq_true (by kernel_rfl))).2
                simp [asked, Region.wanted, yielded, Oper.gives, execOp, Act.eval, Act.put, go_sem, k20, g3]
              all_goals
                intro D sp w' hD hW hdp hbx'
                have c0 := hbx'.c0
                have c1 := hbx'.c1
                have c2 := hbx'.c2
                simp [asked, Region.wanted, yielded, Oper.gives, execOp, Act.eval, Act.put, go_sem, c0, c1, c2]
            · intro sp w6 hsp hbx'
              clear hsp
              simp only [frameOf, Nat.reduceAdd]
              generalize sp 1 = u1 at *
              generalize sp 2 = u2 at *
              generalize sp 4 = u4 at *
              generalize sp 9 = u9 at *
              generalize sp 14 = u14 at *
              generalize sp 20 = u20 at *
              go_simp
              go_wp2
              go_ret
              exact ⟨rfl, hbw.trans (hbx'.bel.mono hbw.size)⟩
    · have hz := Lib.hid hz'
      clear hz'
      refine wp_region_duties (by kernel_rfl) (by kernel_rfl)
        [some (.agg #[.slice pa na ca]), some (.agg #[.slice pc nc cc]), none, some (.agg #[.slice pb nb cb]), some (.agg #[.slice pc nc cc]), none, none, some (.agg #[.slice pa na ca]), some (.agg #[.slice pb nb cb]), none, some (.bool false), some (.bool false), some (.agg #[.slice pc nc cc]), none, some (.bool true), some (.bool true), some (.agg #[.slice pa na ca]), some (.agg #[.slice pc nc cc]), none, some (.agg #[.slice pb nb cb]), some (.agg #[.slice pc nc cc]), none, none, some (.agg #[.slice pa na ca]), some (.agg #[.slice pb nb cb]), none, some (.bool false), some (.bool false), some (.bool false)]
        [false, false, true, false, false, true, true, false, false, true, false, false, false, true, false, false, false, false, true, false, false, true, true, false, false, true, false, false, false] rfl
        (fun w1 w2 => Below w1.heap.size w1 w2)
        (fun _ w' => Boxes3 w3 w' (.slice pa na ca) (.slice pb nb cb) (.slice pc nc cc))
        (fun i v w' => match i with
            | 2 => Fit 25 (x + z) v w'
            | 5 => Fit 25 (y + z) v w'
            | 6 => v = .int .i64 (K)
            | 9 => v = .int .i64 (K)
            | 13 => v = .bool (false)
            | 18 => Fit 24 (x * z) v w'
            | 21 => Fit 24 (y * z) v w'
            | 22 => v = .int .i64 (K)
            | 25 => v = .int .i64 (K)
            | _ => True)
        ?_ (hbx4.below (Below.refl _ _).drew (Nat.le_refl _)) ?_ ?_
      · intro i v w1 w2 hf hb
        split at hf <;> first | exact hf | exact Fit.below hf hb | exact LeastVal.below hf hb
      · simp only [Duties, Nat.reduceAdd]
        refine ⟨?_, ?_, ?_, ?_, ?_, ?_, ?_, ?_, ?_, ?_, ?_, ?_, ?_, ?_, ?_, ?_, ?_, ?_, ?_, ?_, ?_, ?_, ?_, ?_, ?_, ?_, ?_, ?_, ?_, trivial⟩
        case refine_3 =>
          intro D sp w' hD hW hdp hbx'
          (with_reducible refine asked_call (w1 := w') (f := 27) (args := #[.agg #[.slice pa na ca], .agg #[.slice pc nc cc]]) ?_ ?_ ?_)
          · simp [Region.wanted, go_sem]
          · simp [Act.eval, Act.put, go_sem]
          · refine (add_fit ((hA).below (hbx'.bel)) ((hC).below (hbx'.bel)) (by decide) (by decide)).mono ?_
            rintro e w5 ⟨u, rfl, hu, hb⟩
            exact ⟨u, rfl, hb, hu, hbx'.later hb⟩
        case refine_6 =>
          intro D sp w' hD hW hdp hbx'
          (with_reducible refine asked_call (w1 := w') (f := 27) (args := #[.agg #[.slice pb nb cb], .agg #[.slice pc nc cc]]) ?_ ?_ ?_)
          · simp [Region.wanted, go_sem]
          · simp [Act.eval, Act.put, go_sem]
          · refine (add_fit ((hB).below (hbx'.bel)) ((hC).below (hbx'.bel)) (by decide) (by decide)).mono ?_
            rintro e w5 ⟨u, rfl, hu, hb⟩
            exact ⟨u, rfl, hb, hu, hbx'.later hb⟩
        case refine_7 =>
          intro D sp w' hD hW hdp hbx'
          have k2 : Fit 25 (x + z) (sp 2) w' := (hdp 2 (List.mem_of_elem_eq_true (by kernel_rfl))).2
          have k5 : Fit 25 (y + z) (sp 5) w' := (hdp 5 (List.mem_of_elem_eq_true (by kernel_rfl))).2
          (with_reducible refine asked_call (w1 := w') (f := 35) (args := #[sp 2, sp 5]) ?_ ?_ ?_)
          · simp [Region.wanted, go_sem]
          · simp [Act.eval, Act.put, go_sem]
          · refine (cmp_fit k2 k5 (by decide) (by decide)).mono ?_
            rintro e w5 ⟨u, rfl, hu, hb⟩
            exact ⟨u, rfl, hb, hu.trans (congrArg _ ((cmpI_add x y z).trans hK.out)), hbx'.later hb⟩
        case refine_10 =>
          intro D sp w' hD hW hdp hbx'
          (with_reducible refine asked_call (w1 := w') (f := 35) (args := #[.agg #[.slice pa na ca], .agg #[.slice pb nb cb]]) ?_ ?_ ?_)
          · simp [Region.wanted, go_sem]
          · simp [Act.eval, Act.put, go_sem]
          · refine (cmp_fit ((hA).below (hbx'.bel)) ((hB).below (hbx'.bel)) (by decide) (by decide)).mono ?_
            rintro e w5 ⟨u, rfl, hu, hb⟩
            exact ⟨u, rfl, hb, hu.trans (congrArg _ (hK.out)), hbx'.later hb⟩
        case refine_14 =>
          intro D sp w' hD hW hdp hbx'
          (with_reducible refine asked_call (w1 := w') (f := 25) (args := #[.agg #[.slice pc nc cc]]) ?_ ?_ ?_)
          · simp [Region.wanted, yielded, Act.put, go_sem]
          · simp [Act.eval, Act.put, go_sem]
          · refine (zero_fit ((hC).below (hbx'.bel))).mono ?_
            rintro e w5 ⟨u, rfl, hu, hb⟩
            exact ⟨u, rfl, hb, hu.trans (congrArg _ (by simpa using hz.out)), hbx'.later hb⟩
        case refine_19 =>
          intro D sp w' hD hW hdp hbx'
          (with_reducible refine asked_call (w1 := w') (f := 29) (args := #[.agg #[.slice pa na ca], .agg #[.slice pc nc cc]]) ?_ ?_ ?_)
          · simp [Region.wanted, yielded, Act.put, go_sem]
          · simp [Act.eval, Act.put, go_sem]
          · refine (mul_fit ((hA).below (hbx'.bel)) ((hC).below (hbx'.bel)) (by decide) (by decide)).mono ?_
            rintro e w5 ⟨u, rfl, hu, hb⟩
            exact ⟨u, rfl, hb, hu, hbx'.later hb⟩
        case refine_22 =>
          intro D sp w' hD hW hdp hbx'
          (with_reducible refine asked_call (w1 := w') (f := 29) (args := #[.agg #[.slice pb nb cb], .agg #[.slice pc nc cc]]) ?_ ?_ ?_)
          · simp [Region.wanted, yielded, Act.put, go_sem]
          · simp [Act.eval, Act.put, go_sem]
          · refine (mul_fit ((hB).below (hbx'.bel)) ((hC).below (hbx'.bel)) (by decide) (by decide)).mono ?_
            rintro e w5 ⟨u, rfl, hu, hb⟩
            exact ⟨u, rfl, hb, hu, hbx'.later hb⟩
        case refine_23 =>
          intro D sp w' hD hW hdp hbx'
          have k18 : Fit 24 (x * z) (sp 18) w' := (hdp 18 (List.mem_of_elem_eq_true (by kernel_rfl))).2
          have k21 : Fit 24 (y * z) (sp 21) w' := (hdp 21 (List.mem_of_elem_eq_true (by kernel_rfl))).2
          (with_reducible refine asked_call (w1 := w') (f := 35) (args := #[sp 18, sp 21]) ?_ ?_ ?_)
          · simp [Region.wanted, yielded, Act.put, go_sem]
          · simp [Act.eval, Act.put, go_sem]
          · refine (cmp_fit k18 k21 (by decide) (by decide)).mono ?_
            rintro e w5 ⟨u, rfl, hu, hb⟩
            exact ⟨u, rfl, hb, hu.trans (congrArg _ ((cmpI_mul (Nat.pos_of_ne_zero hz.out) x y).trans hK.out)), hbx'.later hb⟩
        case refine_26 =>
          intro D sp w' hD hW hdp hbx'
          (with_reducible refine asked_call (w1 := w') (f := 35) (args := #[.agg #[.slice pa na ca], .agg #[.slice pb nb cb]]) ?_ ?_ ?_)
          · simp [Region.wanted, yielded, Act.put, go_sem]
          · simp [Act.eval, Act.put, go_sem]
          · refine (cmp_fit ((hA).below (hbx'.bel)) ((hB).below (hbx'.bel)) (by decide) (by decide)).mono ?_
            rintro e w5 ⟨u, rfl, hu, hb⟩
            exact ⟨u, rfl, hb, hu.trans (congrArg _ (hK.out)), hbx'.later hb⟩
        case refine_11 =>
          intro D sp w' hD hW hdp hbx'
          have k6 : sp 6 = .int .i64 (K) := (hdp 6 (List.mem_of_elem_eq_true (by kernel_rfl))).2
          have k9 : sp 9 = .int .i64 (K) := (hdp 9 (List.mem_of_elem_eq_true (by kernel_rfl))).2
          simp [asked, Region.wanted, Oper.gives, execOp, Act.eval, Act.put, go_sem, k6, k9]
        case refine_15 =>
          intro D sp w' hD hW hdp hbx'
          have k13 : sp 13 = .bool (false) := (hdp 13 (List.mem_of_elem_eq_true (by kernel_rfl))).2
          simp [asked, Region.wanted, yielded, Oper.gives, execOp, Act.eval, Act.put, go_sem, k13]
        case refine_27 =>
          intro D sp w' hD hW hdp hbx'
          have k22 : sp 22 = .int .i64 (K) := (hdp 22 (List.mem_of_elem_eq_true (by kernel_rfl))).2
          have k25 : sp 25 = .int .i64 (K) := (hdp 25 (List.mem_of_elem_eq_true (by kernel_rfl))).2
          simp [asked, Region.wanted, yielded, Oper.gives, execOp, Act.eval, Act.put, go_sem, k22, k25]
        all_goals
          intro D sp w' hD hW hdp hbx'
          have c0 := hbx'.c0
          have c1 := hbx'.c1
          have c2 := hbx'.c2
          simp [asked, Region.wanted, yielded, Oper.gives, execOp, Act.eval, Act.put, go_sem, c0, c1, c2]
      · intro sp w5 hsp hbx'
        clear hsp
        simp only [frameOf, Nat.reduceAdd]
        generalize sp 2 = u2 at *
        generalize sp 5 = u5 at *
        generalize sp 6 = u6 at *
        generalize sp 9 = u9 at *
        generalize sp 13 = u13 at *
        generalize sp 18 = u18 at *
        generalize sp 21 = u21 at *
        generalize sp 22 = u22 at *
        generalize sp 25 = u25 at *
        go_simp
        have hbx5 := hbx'
        clear hbx'
        go_wp2
        by_cases h1 : 0 < K
        · have g1 : (0 < K) = True := by simp [h1]
          have H1 := Lib.hid h1
          clear h1
          refine wp_region_duties (by kernel_rfl) (by kernel_rfl)
            [some (.agg #[.slice pa na ca]), none, none, some (.agg #[.slice pa na ca]), none, some (.bool true), some (.bool true), some (.agg #[.slice pa na ca]), some (.agg #[.slice pb nb cb]), none, some (.bool true), some (.bool true), some undef, some undef, some undef, some undef, some (.bool true), some (.bool true), some undef, some undef, some undef, some undef, some (.bool true), some (.bool true), some (.bool true)]
            [false, true, true, false, true, false, false, false, false, true, false, false, false, false, false, false, false, false, false, false, false, false, false, false, false] rfl
            (fun w1 w2 => Below w1.heap.size w1 w2)
            (fun _ w' => Boxes3 w3 w' (.slice pa na ca) (.slice pb nb cb) (.slice pc nc cc))
            (fun i v w' => match i with
                | 1 => Fit 1 1 v w'
                | 2 => Fit 14 (x + 1) v w'
                | 4 => v = .int .i64 (1)
                | 9 => v = .int .i64 (K)
                | _ => True)
            ?_ (hbx5.below (Below.refl _ _).drew (Nat.le_refl _)) ?_ ?_
          · intro i v w1 w2 hf hb
            split at hf <;> first | exact hf | exact Fit.below hf hb | exact LeastVal.below hf hb
          · simp only [Duties, Nat.reduceAdd]
            refine ⟨?_, ?_, ?_, ?_, ?_, ?_, ?_, ?_, ?_, ?_, ?_, ?_, ?_, ?_, ?_, ?_, ?_, ?_, ?_, ?_, ?_, ?_, ?_, ?_, ?_, trivial⟩
            case refine_2 =>
              intro D sp w' hD hW hdp hbx'
              (with_reducible refine asked_call (w1 := w') (f := 18) (args := #[.int .u64 1]) ?_ ?_ ?_)
              · simp [Region.wanted, go_sem]
              · simp [Act.eval, Act.put, go_sem]
              · refine (one_fit w' ).mono ?_
                rintro e w5 ⟨u, rfl, hu, hb⟩
                exact ⟨u, rfl, hb, hu, hbx'.later hb⟩
            case refine_3 =>
              intro D sp w' hD hW hdp hbx'
              have k1 : Fit 1 1 (sp 1) w' := (hdp 1 (List.mem_of_elem_eq_true (by kernel_rfl))).2
              (with_reducible refine asked_call (w1 := w') (f := 27) (args := #[.agg #[.slice pa na ca], sp 1]) ?_ ?_ ?_)
              · simp [Region.wanted, go_sem]
              · simp [Act.eval, Act.put, go_sem]
              · refine (add_fit ((hA).below (hbx'.bel)) k1 (by decide) (by decide)).mono ?_
                rintro e w5 ⟨u, rfl, hu, hb⟩
                exact ⟨u, rfl, hb, hu, hbx'.later hb⟩
            case refine_5 =>
              intro D sp w' hD hW hdp hbx'
              have k2 : Fit 14 (x + 1) (sp 2) w' := (hdp 2 (List.mem_of_elem_eq_true (by kernel_rfl))).2
              (with_reducible refine asked_call (w1 := w') (f := 35) (args := #[sp 2, .agg #[.slice pa na ca]]) ?_ ?_ ?_)
              · simp [Region.wanted, go_sem]
              · simp [Act.eval, Act.put, go_sem]
              · refine (cmp_fit k2 ((hA).below (hbx'.bel)) (by decide) (by decide)).mono ?_
                rintro e w5 ⟨u, rfl, hu, hb⟩
                exact ⟨u, rfl, hb, hu.trans (congrArg _ (cmpI_up x)), hbx'.later hb⟩
            case refine_10 =>
              intro D sp w' hD hW hdp hbx'
              (with_reducible refine asked_call (w1 := w') (f := 35) (args := #[.agg #[.slice pa na ca], .agg #[.slice pb nb cb]]) ?_ ?_ ?_)
              · simp [Region.wanted, yielded, Act.put, go_sem]
              · simp [Act.eval, Act.put, go_sem]
              · refine (cmp_fit ((hA).below (hbx'.bel)) ((hB).below (hbx'.bel)) (by decide) (by decide)).mono ?_
                rintro e w5 ⟨u, rfl, hu, hb⟩
                exact ⟨u, rfl, hb, hu.trans (congrArg _ (hK.out)), hbx'.later hb⟩
            case refine_6 =>
              intro D sp w' hD hW hdp hbx'
              have k4 : sp 4 = .int .i64 (1) := (hdp 4 (List.mem_of_elem_eq_true (by kernel_rfl))).2
              simp [asked, Region.wanted, Oper.gives, execOp, Act.eval, Act.put, go_sem, k4]
            case refine_11 =>
              intro D sp w' hD hW hdp hbx'
              have k9 : sp 9 = .int .i64 (K) := (hdp 9 (List.mem_of_elem_eq_true (by kernel_rfl))).2
              simp [asked, Region.wanted, yielded, Oper.gives, execOp, Act.eval, Act.put, go_sem, k9, g1]
            all_goals
              intro D sp w' hD hW hdp hbx'
              have c0 := hbx'.c0
              have c1 := hbx'.c1
              have c2 := hbx'.c2
              simp [asked, Region.wanted, yielded, Oper.gives, execOp, Act.eval, Act.put, go_sem, c0, c1]
          · intro sp w6 hsp hbx'
            clear hsp
            simp only [frameOf, Nat.reduceAdd]
            generalize sp 1 = u1 at *
            generalize sp 2 = u2 at *
            generalize sp 4 = u4 at *
            generalize sp 9 = u9 at *
            go_simp
            go_wp2
            go_ret
            exact ⟨rfl, hbw.trans (hbx'.bel.mono hbw.size)⟩
        · have g1 : (0 < K) = False := by simp [h1]
          have hxy : x ≤ y := by
            have : ¬ y < x := fun h => h1 (hK.out ▸ cmpI_pos.2 h)
            omega
          obtain ⟨K2, hK2'⟩ : ∃ K2, cmpI y z = K2 := ⟨_, rfl⟩
          have hK2 := Lib.hid hK2'
          by_cases h2 : 0 < K2
          · have g2 : (0 < K2) = True := by simp [h2]
            clear h1 h2 hK2' hxy
            refine wp_region_duties (by kernel_rfl) (by kernel_rfl)
              [some (.agg #[.slice pa na ca]), none, none, some (.agg #[.slice pa na ca]), none, some (.bool true), some (.bool true), some (.agg #[.slice pa na ca]), some (.agg #[.slice pb nb cb]), none, some (.bool false), some (.bool false), some (.agg #[.slice pb nb cb]), some (.agg #[.slice pc nc cc]), none, some (.bool true), some (.bool true), some (.bool true), some undef, some undef, some undef, some undef, some (.bool true), some (.bool true), some (.bool true)]
              [false, true, true, false, true, false, false, false, false, true, false, false, false, false, true, false, false, false, false, false, false, false, false, false, false] rfl
              (fun w1 w2 => Below w1.heap.size w1 w2)
              (fun _ w' => Boxes3 w3 w' (.slice pa na ca) (.slice pb nb cb) (.slice pc nc cc))
              (fun i v w' => match i with
                  | 1 => Fit 1 1 v w'
                  | 2 => Fit 14 (x + 1) v w'
                  | 4 => v = .int .i64 (1)
                  | 9 => v = .int .i64 (K)
                  | 14 => v = .int .i64 (K2)
                  | _ => True)
              ?_ (hbx5.below (Below.refl _ _).drew (Nat.le_refl _)) ?_ ?_
            · intro i v w1 w2 hf hb
              split at hf <;> first | exact hf | exact Fit.below hf hb | exact LeastVal.below hf hb
            · simp only [Duties, Nat.reduceAdd]
              refine ⟨?_, ?_, ?_, ?_, ?_, ?_, ?_, ?_, ?_, ?_, ?_, ?_, ?_, ?_, ?_, ?_, ?_, ?_, ?_, ?_, ?_, ?_, ?_, ?_, ?_, trivial⟩
              case refine_2 =>
                intro D sp w' hD hW hdp hbx'
                (with_reducible refine asked_call (w1 := w') (f := 18) (args := #[.int .u64 1]) ?_ ?_ ?_)
                · simp [Region.wanted, go_sem]
                · simp [Act.eval, Act.put, go_sem]
                · refine (one_fit w' ).mono ?_
                  rintro e w5 ⟨u, rfl, hu, hb⟩
                  exact ⟨u, rfl, hb, hu, hbx'.later hb⟩
              case refine_3 =>
                intro D sp w' hD hW hdp hbx'
                have k1 : Fit 1 1 (sp 1) w' := (hdp 1 (List.mem_of_elem_eq_true (by kernel_rfl))).2
                (with_reducible refine asked_call (w1 := w') (f := 27) (args := #[.agg #[.slice pa na ca], sp 1]) ?_ ?_ ?_)
                · simp [Region.wanted, go_sem]
                · simp [Act.eval, Act.put, go_sem]
                · refine (add_fit ((hA).below (hbx'.bel)) k1 (by decide) (by decide)).mono ?_
                  rintro e w5 ⟨u, rfl, hu, hb⟩
                  exact ⟨u, rfl, hb, hu, hbx'.later hb⟩
              case refine_5 =>
                intro D sp w' hD hW hdp hbx'
                have k2 : Fit 14 (x + 1) (sp 2) w' := (hdp 2 (List.mem_of_elem_eq_true (by kernel_rfl))).2
                (with_reducible refine asked_call (w1 := w') (f := 35) (args := #[sp 2, .agg #[.slice pa na ca]]) ?_ ?_ ?_)
                · simp [Region.wanted, go_sem]
                · simp [Act.eval, Act.put, go_sem]
                · refine (cmp_fit k2 ((hA).below (hbx'.bel)) (by decide) (by decide)).mono ?_
                  rintro e w5 ⟨u, rfl, hu, hb⟩
                  exact ⟨u, rfl, hb, hu.trans (congrArg _ (cmpI_up x)), hbx'.later hb⟩
              case refine_10 =>
                intro D sp w' hD hW hdp hbx'
                (with_reducible refine asked_call (w1 := w') (f := 35) (args := #[.agg #[.slice pa na ca], .agg #[.slice pb nb cb]]) ?_ ?_ ?_)
                · simp [Region.wanted, yielded, Act.put, go_sem]
                · simp [Act.eval, Act.put, go_sem]
                · refine (cmp_fit ((hA).below (hbx'.bel)) ((hB).below (hbx'.bel)) (by decide) (by decide)).mono ?_
                  rintro e w5 ⟨u, rfl, hu, hb⟩
                  exact ⟨u, rfl, hb, hu.trans (congrArg _ (hK.out)), hbx'.later hb⟩
              case refine_15 =>
                intro D sp w' hD hW hdp hbx'
                (with_reducible refine asked_call (w1 := w') (f := 35) (args := #[.agg #[.slice pb nb cb], .agg #[.slice pc nc cc]]) ?_ ?_ ?_)
                · simp [Region.wanted, yielded, Act.put, go_sem]
                · simp [Act.eval, Act.put, go_sem]
                · refine (cmp_fit ((hB).below (hbx'.bel)) ((hC).below (hbx'.bel)) (by decide) (by decide)).mono ?_
                  rintro e w5 ⟨u, rfl, hu, hb⟩
                  exact ⟨u, rfl, hb, hu.trans (congrArg _ (hK2.out)), hbx'.later hb⟩
              case refine_6 =>
                intro D sp w' hD hW hdp hbx'
                have k4 : sp 4 = .int .i64 (1) := (hdp 4 (List.mem_of_elem_eq_true (by kernel_rfl))).2
                simp [asked, Region.wanted, Oper.gives, execOp, Act.eval, Act.put, go_sem, k4]
              case refine_11 =>
                intro D sp w' hD hW hdp hbx'
                have k9 : sp 9 = .int .i64 (K) := (hdp 9 (List.mem_of_elem_eq_true (by kernel_rfl))).2
                simp [asked, Region.wanted, yielded, Oper.gives, execOp, Act.eval, Act.put, go_sem, k9, g1]
              case refine_16 =>
                intro D sp w' hD hW hdp hbx'
                have k14 : sp 14 = .int .i64 (K2) := (hdp 14 (List.mem_of_elem_eq_true (by kernel_rfl))).2
                simp [asked, Region.wanted, yielded, Oper.gives, execOp, Act.eval, Act.put, go_sem, k14, g2]
              all_goals
                intro D sp w' hD hW hdp hbx'
                have c0 := hbx'.c0
                have c1 := hbx'.c1
                have c2 := hbx'.c2
                simp [asked, Region.wanted, yielded, Oper.gives, execOp, Act.eval, Act.put, go_sem, c0, c1, c2]
            · intro sp w6 hsp hbx'
              clear hsp
              simp only [frameOf, Nat.reduceAdd]
              generalize sp 1 = u1 at *
              generalize sp 2 = u2 at *
              generalize sp 4 = u4 at *
              generalize sp 9 = u9 at *
              generalize sp 14 = u14 at *
              go_simp
              go_wp2
              go_ret
              exact ⟨rfl, hbw.trans (hbx'.bel.mono hbw.size)⟩
          · have g2 : (0 < K2) = False := by simp [h2]
            have hyz : y ≤ z := by
              have : ¬ z < y := fun h => h2 (hK2.out ▸ cmpI_pos.2 h)
              omega
            obtain ⟨K3, hK3'⟩ : ∃ K3, cmpI x z = K3 := ⟨_, rfl⟩
            have hK3 := Lib.hid hK3'
            have h3 : K3 ≤ 0 := by
              have : ¬ 0 < K3 := fun h => by have := cmpI_pos.1 (hK3' ▸ h); omega
              omega
            have g3 : (K3 ≤ 0) = True := by simp [h3]
            clear h1 h2 h3 hK2' hK3' hxy hyz
            refine wp_region_duties (by kernel_rfl) (by kernel_rfl)
              [some (.agg #[.slice pa na ca]), none, none, some (.agg #[.slice pa na ca]), none, some (.bool true), some (.bool true), some (.agg #[.slice pa na ca]), some (.agg #[.slice pb nb cb]), none, some (.bool false), some (.bool false), some (.agg #[.slice pb nb cb]), some (.agg #[.slice pc nc cc]), none, some (.bool false), some (.bool false), some (.bool false), some (.agg #[.slice pa na ca]), some (.agg #[.slice pc nc cc]), none, some (.bool true), some (.bool true), some (.bool true), some (.bool true)]
              [false, true, true, false, true, false, false, false, false, true, false, false, false, false, true, false, false, false, false, false, true, false, false, false, false] rfl
              (fun w1 w2 => Below w1.heap.size w1 w2)
              (fun _ w' => Boxes3 w3 w' (.slice pa na ca) (.slice pb nb cb) (.slice pc nc cc))
              (fun i v w' => match i with
                  | 1 => Fit 1 1 v w'
                  | 2 => Fit 14 (x + 1) v w'
                  | 4 => v = .int .i64 (1)
                  | 9 => v = .int .i64 (K)
                  | 14 => v = .int .i64 (K2)
                  | 20 => v = .int .i64 (K3)
                  | _ => True)
              ?_ (hbx5.below (Below.refl _ _).drew (Nat.le_refl _)) ?_ ?_
            · intro i v w1 w2 hf hb
              split at hf <;> first | exact hf | exact Fit.below hf hb | exact LeastVal.below hf hb
            · simp only [Duties, Nat.reduceAdd]
              refine ⟨?_, ?_, ?_, ?_, ?_, ?_, ?_, ?_, ?_, ?_, ?_, ?_, ?_, ?_, ?_, ?_, ?_, ?_, ?_, ?_, ?_, ?_, ?_, ?_, ?_, trivial⟩
              case refine_2 =>
                intro D sp w' hD hW hdp hbx'
                (with_reducible refine asked_call (w1 := w') (f := 18) (args := #[.int .u64 1]) ?_ ?_ ?_)
                · simp [Region.wanted, go_sem]
                · simp [Act.eval, Act.put, go_sem]
                · refine (one_fit w' ).mono ?_
                  rintro e w5 ⟨u, rfl, hu, hb⟩
                  exact ⟨u, rfl, hb, hu, hbx'.later hb⟩
              case refine_3 =>
                intro D sp w' hD hW hdp hbx'
                have k1 : Fit 1 1 (sp 1) w' := (hdp 1 (List.mem_of_elem_eq_true (by kernel_rfl))).2
                (with_reducible refine asked_call (w1 := w') (f := 27) (args := #[.agg #[.slice pa na ca], sp 1]) ?_ ?_ ?_)
                · simp [Region.wanted, go_sem]
                · simp [Act.eval, Act.put, go_sem]
                · refine (add_fit ((hA).below (hbx'.bel)) k1 (by decide) (by decide)).mono ?_
                  rintro e w5 ⟨u, rfl, hu, hb⟩
                  exact ⟨u, rfl, hb, hu, hbx'.later hb⟩
              case refine_5 =>
                intro D sp w' hD hW hdp hbx'
                have k2 : Fit 14 (x + 1) (sp 2) w' := (hdp 2 (List.mem_of_elem_eq_true (by kernel_rfl))).2
                (with_reducible refine asked_call (w1 := w') (f := 35) (args := #[sp 2, .agg #[.slice pa na ca]]) ?_ ?_ ?_)
                · simp [Region.wanted, go_sem]
                · simp [Act.eval, Act.put, go_sem]
                · refine (cmp_fit k2 ((hA).below (hbx'.bel)) (by decide) (by decide)).mono ?_
                  rintro e w5 ⟨u, rfl, hu, hb⟩
                  exact ⟨u, rfl, hb, hu.trans (congrArg _ (cmpI_up x)), hbx'.later hb⟩
              case refine_10 =>
                intro D sp w' hD hW hdp hbx'
                (with_reducible refine asked_call (w1 := w') (f := 35) (args := #[.agg #[.slice pa na ca], .agg #[.slice pb nb cb]]) ?_ ?_ ?_)
                · simp [Region.wanted, yielded, Act.put, go_sem]
                · simp [Act.eval, Act.put, go_sem]
                · refine (cmp_fit ((hA).below (hbx'.bel)) ((hB).below (hbx'.bel)) (by decide) (by decide)).mono ?_
                  rintro e w5 ⟨u, rfl, hu, hb⟩
                  exact ⟨u, rfl, hb, hu.trans (congrArg _ (hK.out)), hbx'.later hb⟩
              case refine_15 =>
                intro D sp w' hD hW hdp hbx'
                (with_reducible refine asked_call (w1 := w') (f := 35) (args := #[.agg #[.slice pb nb cb], .agg #[.slice pc nc cc]]) ?_ ?_ ?_)
                · simp [Region.wanted, yielded, Act.put, go_sem]
                · simp [Act.eval, Act.put, go_sem]
                · refine (cmp_fit ((hB).below (hbx'.bel)) ((hC).below (hbx'.bel)) (by decide) (by decide)).mono ?_
                  rintro e w5 ⟨u, rfl, hu, hb⟩
                  exact ⟨u, rfl, hb, hu.trans (congrArg _ (hK2.out)), hbx'.later hb⟩
              case refine_21 =>
                intro D sp w' hD hW hdp hbx'
                (with_reducible refine asked_call (w1 := w') (f := 35) (args := #[.agg #[.slice pa na ca], .agg #[.slice pc nc cc]]) ?_ ?_ ?_)
                · simp [Region.wanted, yielded, Act.put, go_sem]
                · simp [Act.eval, Act.put, go_sem]
                · refine (cmp_fit ((hA).below (hbx'.bel)) ((hC).below (hbx'.bel)) (by decide) (by decide)).mono ?_
                  rintro e w5 ⟨u, rfl, hu, hb⟩
                  exact ⟨u, rfl, hb, hu.trans (congrArg _ (hK3.out)), hbx'.later hb⟩
              case refine_6 =>
                intro D sp w' hD hW hdp hbx'
                have k4 : sp 4 = .int .i64 (1) := (hdp 4 (List.mem_of_elem_eq_true (by kernel_rfl))).2
                simp [asked, Region.wanted, Oper.gives, execOp, Act.eval, Act.put, go_sem, k4]
              case refine_11 =>
                intro D sp w' hD hW hdp hbx'
                have k9 : sp 9 = .int .i64 (K) := (hdp 9 (List.mem_of_elem_eq_true (by kernel_rfl))).2
                simp [asked, Region.wanted, yielded, Oper.gives, execOp, Act.eval, Act.put, go_sem, k9, g1]
              case refine_16 =>
                intro D sp w' hD hW hdp hbx'
                have k14 : sp 14 = .int .i64 (K2) := (hdp 14 (List.mem_of_elem_eq_true (by kernel_rfl))).2
                simp [asked, Region.wanted, yielded, Oper.gives, execOp, Act.eval, Act.put, go_sem, k14, g2]
              case refine_22 =>
                intro D sp w' hD hW hdp hbx'
                have k20 : sp 20 = .int .i64 (K3) := (hdp 20 (List.mem_of_elem_eq_true (by kernel_rfl))).2
                simp [asked, Region.wanted, yielded, Oper.gives, execOp, Act.eval, Act.put, go_sem, k20, g3]
              all_goals
                intro D sp w' hD hW hdp hbx'
                have c0 := hbx'.c0
                have c1 := hbx'.c1
                have c2 := hbx'.c2
                simp [asked, Region.wanted, yielded, Oper.gives, execOp, Act.eval, Act.put, go_sem, c0, c1, c2]
            · intro sp w6 hsp hbx'
              clear hsp
              simp only [frameOf, Nat.reduceAdd]
              generalize sp 1 = u1 at *
              generalize sp 2 = u2 at *
              generalize sp 4 = u4 at *
              generalize sp 9 = u9 at *
              generalize sp 14 = u14 at *
              generalize sp 20 = u20 at *
              go_simp
              go_wp2
              go_ret
              exact ⟨rfl, hbw.trans (hbx'.bel.mono hbw.size)⟩

end Go.Proofs.Ytgmbaamfmjekjaa
