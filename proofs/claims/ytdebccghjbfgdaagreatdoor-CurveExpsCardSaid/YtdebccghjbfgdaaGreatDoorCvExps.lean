/- CurveExps, walked. -/
import Derived.Test.YtdebccghjbfgdaaGreatDoorCuN
import Derived.Test.YtdebccghjbfgdaaGreatDoorRing
import Derived.Test.YtdebccghjbfgdaaGreatDoorCuT
import Derived.Test.YtdebccghjbfgdaaGreatDoorCuU
/-! The chapter's example lives (law10's lives). -/
namespace Go.Proofs.YtdebccghjbfgdaaGreatDoor
open Go Go.RowKit Go.Proofs.YtdebccghjbfgdaaGreatDoor.Flow
set_option maxRecDepth 100000

theorem hor11 : horQ 101 2 [3, 2, 1] = 11 := by decide
set_option maxHeartbeats 4000000 in
set_option maxRecDepth 1000000 in
theorem lives10_calls (w : World) (hr : Tabs w) :
    Calls Tryz.prog 14 #[] w fun e w' => e = .returned (.bool true) ∧ Below w.heap.size w w' := by
  have HF : Hold _ := ⟨field_calls w 0 hr⟩
  clear hr
  go_enter Tryz.func14, Tryz.ntmps14
  go_wp2_with fail
  refine HF.out.mono ?_
  rintro en w1 ⟨r, rfl, hr, hb1⟩
  have hr' : Ring w1 r 101 33 := hr
  obtain ⟨W1, hW1⟩ : ∃ W, w1.alloc (.cells #[.int .u64 3, .int .u64 2, .int .u64 1] 23) = W := ⟨_, rfl⟩
  have hbw : Below w1.heap.size w1 W1 := by rw [← hW1]; exact (Below.refl _ _).alloc (Nat.le_refl _) _
  have hnew : W1.heap[w1.heap.size]? = some (.cells #[.int .u64 3, .int .u64 2, .int .u64 1] 23 (0, 0)) := by rw [← hW1]; exact heap_alloc_new w1 _
  have hrow : RowIn W1 .u64 (some ⟨w1.heap.size, 0, none⟩) 3 3 [3, 2, 1] := ⟨rfl, Nat.le_refl _, by decide, fun _ => ⟨rfl, Nat.le_refl _, by decide, .inr ⟨w1.heap.size, 0, rfl, (Array.getElem?_eq_some_iff.1 hnew).1, fun i x hx => by
    match i, hx with
    | 0, hx => simp at hx; subst hx; simp [World.cell?, hnew]
    | 1, hx => simp at hx; subst hx; simp [World.cell?, hnew]
    | 2, hx => simp at hx; subst hx; simp [World.cell?, hnew]
    | i + 3, hx => simp at hx⟩⟩⟩
  have HN : Hold _ := ⟨nums_calls W1 _ 3 3 [3, 2, 1] hrow (fun x hx => by simp at hx; unfold U64; omega) (by decide)⟩
  have HR1 : Hold _ := ⟨hr'.below hbw⟩
  have HB1 : Hold _ := ⟨bstep hb1 hbw⟩
  clear hr hr' hbw hnew hrow hb1 HF
  go_wp2_with fail
  refine HN.out.mono ?_
  rintro en w2 ⟨p, c, rfl, hp, hb2⟩
  have HR2 : Hold _ := ⟨HR1.out.below hb2⟩
  have HP2 : Hold _ := ⟨hp⟩
  have HB2 : Hold _ := ⟨bstep HB1.out hb2⟩
  clear hp hb2 HR1 HB1 HN hW1
  go_wp2_with fail
  refine (two_fit w2).mono ?_
  rintro en w3 ⟨x3, rfl, h3, b3⟩
  have HE : Hold _ := ⟨eval_fit (HR2.out.below b3) (HP2.out.below b3) h3 (by decide) (by decide) (by decide)⟩
  have HB3 : Hold _ := ⟨bstep HB2.out b3⟩
  clear h3 b3 HR2 HP2 HB2
  go_wp2_with fail
  refine HE.out.mono ?_
  rintro en w4 ⟨x4, rfl, h4, b4⟩
  rw [hor11] at h4
  have H4 : Hold _ := ⟨h4⟩
  have HB4 : Hold _ := ⟨bstep HB3.out b4⟩
  clear h4 b4 HE HB3
  go_wp2_with fail
  refine (newnat_fit (n := 11) w4 (by omega)).mono ?_
  rintro en w5 ⟨x5, rfl, h5, b5⟩
  have HC : Hold _ := ⟨cmp_fitK (H4.out.below b5) h5 (by decide) (by decide) (cmpI_zero.2 rfl)⟩
  have HB5 : Hold _ := ⟨bstep HB4.out b5⟩
  clear h5 b5 H4 HB4
  go_wp2_with fail
  refine HC.out.mono ?_
  rintro en w6 ⟨_, rfl, rfl, b6⟩
  have HB6 : Hold _ := ⟨bstep HB5.out b6⟩
  clear b6 HC HB5
  go_wp2
  go_ret
  exact ⟨rfl, HB6.out⟩

end Go.Proofs.YtdebccghjbfgdaaGreatDoor

namespace Go.Proofs.YtdebccghjbfgdaaGreatDoor
open Go Go.RowKit Go.Proofs.YtdebccghjbfgdaaGreatDoor.Flow
set_option maxRecDepth 100000

set_option maxHeartbeats 8000000 in
set_option maxRecDepth 1000000 in
theorem cexps_calls (w : World) (hr : Tabs w) (A : Int) (p : Option Addr) (n c : Nat) (xs : List Nat) (h : RowIn w .u64 p n c xs) (h64 : ∀ x ∈ xs, U64 x) (pl : Option Addr) (nl cl : Nat) (ls : List Nat) (hl : RowIn w .u64 pl nl cl ls) (hl64 : ∀ x ∈ ls, U64 x) (X : Nat) (hX : U64 X) :
    Calls Tryz.prog 7 #[.int .i64 A, .slice p n c, .slice pl nl cl, .int .u64 (X : Nat)] w fun e w' => e = .returned (.bool true) ∧ Below w.heap.size w w' := by
  have HLI : Hold _ := ⟨lives10_calls⟩
  have HGR : Hold _ := ⟨group10_calls⟩
  have HT : Hold _ := ⟨hr⟩
  have HROW : Hold _ := ⟨h⟩
  have H64 : Hold _ := ⟨h64⟩
  have HROL : Hold _ := ⟨hl⟩
  have HL64 : Hold _ := ⟨hl64⟩
  have HX : Hold (X < 18446744073709551616) := ⟨hX⟩
  have HLN : Hold _ := ⟨h.len⟩
  have HLL : Hold _ := ⟨hl.len⟩
  have hnc := h.cap
  have hcm := h.max
  have hnc2 := hl.cap
  have hcm2 := hl.max
  obtain ⟨i, hi⟩ : ∃ i, ((IntKind.u64.wrap A) % 3).toNat = i := ⟨_, rfl⟩
  have HI3 : Hold (i < 3) := ⟨by rw [← hi]; exact idx_lt A⟩
  have HI : Hold _ := ⟨hi⟩
  clear h h64 hl hl64 hr hX hi
  go_enter Tryz.func7, Tryz.ntmps7
  go_wp2_with fail
  refine (HLI.out w HT.out).mono ?_
  rintro en w1 ⟨rfl, b1⟩
  have B1 : Hold _ := ⟨b1⟩
  clear b1
  by_cases hn8 : 8 < n
  · have hn8' : (8 : Int) < n := by omega
    go_wp2_with fail
    refine (HLI.out w1 (HT.out.below B1.out HT.out.size)).mono ?_
    rintro en w2 ⟨rfl, b2⟩
    have B2 : Hold _ := ⟨bstep B1.out b2⟩
    clear b2
    go_wp2
    go_ret
    exact ⟨rfl, B2.out⟩
  have hn8' : ¬ (8 : Int) < n := by omega
  by_cases hm8 : 8 < nl
  · have hm8' : (8 : Int) < nl := by omega
    go_wp2_with fail
    refine (HLI.out w1 (HT.out.below B1.out HT.out.size)).mono ?_
    rintro en w2 ⟨rfl, b2⟩
    have B2 : Hold _ := ⟨bstep B1.out b2⟩
    clear b2
    go_wp2
    go_ret
    exact ⟨rfl, B2.out⟩
  have hm8' : ¬ (8 : Int) < nl := by omega
  go_wp2_with fail
  refine (HGR.out w1 A (HT.out.below B1.out HT.out.size)).mono ?_
  rintro en w2 ⟨b, rfl, hg2, b2⟩
  rw [HI.out] at hg2
  obtain ⟨P, hP⟩ : ∃ q, gP i = q := ⟨_, rfl⟩
  obtain ⟨q, hq⟩ : ∃ q, gQ i = q := ⟨_, rfl⟩
  obtain ⟨gg, hgg⟩ : ∃ q, gG i = q := ⟨_, rfl⟩
  obtain ⟨hh, hhh⟩ : ∃ q, gH i = q := ⟨_, rfl⟩
  have HPQ : Hold (Prime q) := ⟨by rw [← hq]; exact gQ_prime i HI3.out⟩
  have HP2 : Hold (2 ≤ P) := ⟨by have := g_bounds i HI3.out; omega⟩
  have HGM : Hold (gg ^ q % P = 1 % P) := ⟨by
    have h1 := gG_member i HI3.out
    rw [hq, hP, hgg] at h1
    rw [h1, Nat.mod_eq_of_lt (by have := HP2.out; omega)]⟩
  rw [hP, hq, hgg, hhh] at hg2
  have HG2 : Hold _ := ⟨hg2⟩
  have B2 : Hold _ := ⟨bstep B1.out b2⟩
  clear hg2 b2 hq hP hgg hhh
  go_wp2_with fail
  refine (gfield_fit HG2.out).mono ?_
  rintro en w3 ⟨r, rfl, hr3, b3⟩
  have HR3 : Hold _ := ⟨hr3⟩
  have HG3 : Hold _ := ⟨HG2.out.below b3⟩
  have B3 : Hold _ := ⟨bstep B2.out b3⟩
  clear hr3 b3
  go_wp2_with fail
  refine (nums_calls w3 p n c xs (HROW.out.below B3.out) H64.out (by omega)).mono ?_
  rintro en w4 ⟨p4, c4, rfl, hp4, b4⟩
  have HP4 : Hold _ := ⟨hp4⟩
  have HR4 : Hold _ := ⟨HR3.out.below b4⟩
  have HG4 : Hold _ := ⟨HG3.out.below b4⟩
  have B4 : Hold _ := ⟨bstep B3.out b4⟩
  clear hp4 b4
  go_wp2_with fail
  refine (nums_calls w4 pl nl cl ls (HROL.out.below B4.out) HL64.out (by omega)).mono ?_
  rintro en w5 ⟨p5, c5, rfl, hp5, b5⟩
  have HPL5 : Hold _ := ⟨hp5⟩
  have HPX5 : Hold _ := ⟨HP4.out.below b5⟩
  have HR5 : Hold _ := ⟨HR4.out.below b5⟩
  have HG5 : Hold _ := ⟨HG4.out.below b5⟩
  have B5 : Hold _ := ⟨bstep B4.out b5⟩
  clear hp5 b5
  go_wp2_with fail
  refine (newnat_fit (n := X) w5 HX.out).mono ?_
  rintro en w6 ⟨_, rfl, ⟨py, ny, cy, rfl, y1, y2⟩, b6⟩
  have hbY : Below w6.heap.size w6 (w6.alloc (.cells #[.slice py ny cy] 36)) := (Below.refl _ _).alloc (Nat.le_refl _) _
  have hxY := NatBox.made w6 (.slice py ny cy)
  obtain ⟨wY, hwY⟩ : ∃ x, w6.alloc (.cells #[.slice py ny cy] 36) = x := ⟨_, rfl⟩
  rw [hwY] at hbY hxY
  obtain ⟨bY, hbYe⟩ : ∃ x, w6.heap.size = x := ⟨_, rfl⟩
  rw [hbYe] at hxY
  have HBY0 : Hold _ := ⟨hxY⟩
  have HFY0 : Hold _ := ⟨(Fit.of y1 y2).below hbY⟩
  have hb5Y := bstep b6 hbY
  have HPL : Hold _ := ⟨HPL5.out.below hb5Y⟩
  have HPX : Hold _ := ⟨HPX5.out.below hb5Y⟩
  have HRY : Hold _ := ⟨HR5.out.below hb5Y⟩
  have HGY : Hold _ := ⟨HG5.out.below hb5Y⟩
  have BY : Hold _ := ⟨bstep B5.out hb5Y⟩
  clear y1 y2 b6 hbY hxY hb5Y
  go_wp2
  clear hwY hbYe
  go_loopw [14, 16, 46] (fun vc _ iv wr => ∃ (k : Nat) (us : List (Option Addr × Nat × Nat)), k ≤ n ∧ iv = .int .i64 k ∧ Hold (Below wY.heap.size wY wr) ∧ Hold (RowS wr wY.heap.size vc us) ∧ Hold (Trip wr 33 us ((xs.take k).map fun a => gg ^ a % P))) (fun _ _ iv _ => n - (intOf iv).toNat)
  case atStart => exact ⟨0, [], by omega, rfl, ⟨Below.refl _ _⟩, ⟨RowS.nil _ _⟩, ⟨Trip.nil _ _⟩⟩
  case round =>
    obtain ⟨k, us, hk, rfl, HB, HS, HTr⟩ := hrel
    by_cases hkn : k < n
    · obtain ⟨a, hak⟩ : ∃ a, xs[k]? = some a := ⟨xs[k]'(by rw [← HLN.out]; exact hkn), List.getElem?_eq_getElem _⟩
      obtain ⟨b2, off2, rfl, hb2, hc2⟩ := HPX.out.at_ (by omega)
      obtain ⟨q1, m1, d1, ha1, ha2, ha3⟩ := hc2 k a hak
      have hcy : wr.cell? ⟨b2, off2 + k, none⟩ = some (.slice q1 m1 d1) := (HB.out.cell (p := ⟨b2, off2 + k, none⟩) hb2).trans ha1
      have hba : Below wr.heap.size wr (wr.alloc (.cells #[.slice q1 m1 d1] 36)) := (Below.refl _ _).alloc (Nat.le_refl _) _
      have hxa := NatBox.made wr (.slice q1 m1 d1)
      obtain ⟨wa, hwa⟩ : ∃ wa, wr.alloc (.cells #[.slice q1 m1 d1] 36) = wa := ⟨_, rfl⟩
      rw [hwa] at hba hxa
      obtain ⟨bv, hbv⟩ : ∃ x, wr.heap.size = x := ⟨_, rfl⟩
      rw [hbv] at hxa
      have HBa : Hold (Below wY.heap.size wY wa) := ⟨bstep HB.out hba⟩
      have HBX : Hold _ := ⟨hxa⟩
      have HFX : Hold _ := ⟨(Fit.of ha2 ha3).below HBa.out⟩
      obtain ⟨pv1, cv1, hv1⟩ := HS.out.slice
      obtain ⟨n1, hn1⟩ : ∃ m, us.length = m := ⟨_, rfl⟩
      rw [hn1] at hv1
      subst hv1
      clear hn1
      have hl1 : us.length = k := by rw [HTr.out.len, List.length_map, List.length_take, ← HLN.out]; omega
      have HTK : Hold (((xs.take (k + 1)).map fun a => gg ^ a % P) = ((xs.take k).map fun a => gg ^ a % P) ++ [gg ^ a % P]) := ⟨by rw [snoc_take hak, List.map_append]; rfl⟩
      obtain ⟨ZZ, hZZ⟩ : ∃ Y, gg ^ a % P = Y := ⟨_, rfl⟩
      have HNN : Hold _ := ⟨hZZ⟩
      rw [hZZ] at HTK
      have HL1 : Hold (us.length ≤ 100000) := ⟨by omega⟩
      have HGA : Hold _ := ⟨HGY.out.below HBa.out⟩
      have HRS : Hold _ := ⟨HS.out.below hba⟩
      have HTa : Hold _ := ⟨HTr.out.below hba⟩
      have HBW : Hold (wY.heap.size ≤ wa.heap.size) := ⟨HBa.out.size⟩
      have hkn' : (k : Int) < n := by omega
      have hnk : ¬ n ≤ k := by omega
      clear hc2 hak ha1 ha2 hba hxa hb2 hl1 hZZ
      go_wp2
      clear hwa hbv hcy
      refine wp_region_dutiesS (by kernel_rfl) (by kernel_rfl)
        [some (.slice pv1 n1 cv1), some (.pointer (some ⟨b, 0, none⟩)), some (.pointer (some ⟨b, 0, none⟩)), none, some (.agg #[.slice q1 m1 d1]), none, none, none, none]
        [false, false, false, true, false, true, true, true, true] rfl
        (fun _ _ => True) (fun D sp w' => AG wa wY.heap.size (.slice pv1 n1 cv1) us ZZ gg (D 3) (D 5) (D 6) (D 7) (D 8) (sp 3) (sp 5) (sp 6) (sp 7) (sp 8) w') (fun _ _ _ => True) (fun _ _ _ _ _ _ => trivial)
        AG.start ?_ ?_
      · simp only [DutiesS, Nat.reduceAdd]
        refine ⟨?_, ?_, ?_, ?_, ?_, ?_, ?_, ?_, ?_, trivial⟩
        case refine_4 =>
          intro D sp w' hD hW hdp hg
          rw [hD] at hg
          have d7 := hg.n3
          rw [d7] at hg
          (with_reducible refine asked_call (w1 := w') (f := 40) (args := #[.pointer (some ⟨b, 0, none⟩)]) ?_ ?_ ?_)
          · simp only [Region.wanted]
          · simp [Act.eval, Act.put, go_sem]
          · refine (gG_fit (HGA.out.below (hg.pre rfl))).mono ?_
            rintro en w9 ⟨u, rfl, hu, hb⟩
            exact ⟨u, rfl, trivial, trivial, by simpa [upd, d7] using (hg.later hb).put3 hu⟩
        case refine_5 =>
          intro D sp w' hD hW hdp hg
          have d5 : D 5 = false := hW 5 (List.mem_of_elem_eq_true (by kernel_rfl))
          rw [d5] at hg
          have d7 := hg.n5
          rw [d7] at hg
          have c0 := (HBX.out.below (hg.pre rfl) HBX.out.lt).cell
          simp [asked, Region.wanted, Oper.gives, execOp, Act.eval, Act.put, go_sem, c0]
        case refine_6 =>
          intro D sp w' hD hW hdp hg
          have d3 : D 3 = true := (hdp 3 (List.mem_of_elem_eq_true (by kernel_rfl))).1
          rw [hD, d3] at hg
          have d7 := hg.n5
          rw [d7] at hg
          (with_reducible refine asked_call (w1 := w') (f := 39) (args := #[.pointer (some ⟨b, 0, none⟩), sp 3, .agg #[.slice q1 m1 d1]]) ?_ ?_ ?_)
          · simp only [Region.wanted]
          · simp [Act.eval, Act.put, go_sem]
          · refine (gexp_fit (HGA.out.below (hg.pre rfl)) (hg.p3 rfl rfl) (HFX.out.below (hg.pre rfl)) (by decide) (by decide)).mono ?_
            rintro en w9 ⟨u, rfl, hu, hb⟩
            rw [HNN.out] at hu
            exact ⟨u, rfl, trivial, trivial, by simpa [upd, d7, d3] using (hg.later hb).put5 hu⟩
        case refine_7 =>
          intro D sp w' hD hW hdp hg
          have d5 : D 5 = true := (hdp 5 (List.mem_of_elem_eq_true (by kernel_rfl))).1
          rw [hD, d5] at hg
          have d7 := hg.n6
          rw [d7] at hg
          have hx : ∃ p n c, sp 5 = .agg #[.slice p n c] ∧ NatAt w' p n c (ZZ) ∧ ZZ < B32 33 := hg.p5 rfl rfl
          (with_reducible refine Exists.elim hx fun p hx1 => ?_)
          (with_reducible refine Exists.elim hx1 fun n hx2 => ?_)
          (with_reducible refine Exists.elim hx2 fun c hx3 => ?_)
          have h1 := hx3.1
          have hba : Below w'.heap.size w' (w'.alloc (.cells #[.slice p n c] 36)) := (Below.refl _ _).alloc (Nat.le_refl _) _
          have hN := (hg.later hba).put6 (x := (p, n, c)) (NatBox.made w' (.slice p n c)).cell (hx3.2.1.below hba) hx3.2.2
          (with_reducible refine asked_value (w1 := w'.alloc (.cells #[.slice p n c] 36)) (v := .slice (some ⟨w'.heap.size, 0, none⟩) 1 1) ?_ ?_ ?_)
          · simp only [Region.wanted]
          · simp [execOp, Act.eval, Act.put, go_sem, h1]
          · exact ⟨trivial, trivial, by simpa [upd, d7, d5] using hN⟩
        case refine_8 =>
          intro D sp w' hD hW hdp hg
          have d6 : D 6 = true := (hdp 6 (List.mem_of_elem_eq_true (by kernel_rfl))).1
          rw [hD, d6] at hg
          (with_reducible refine Exists.elim (hg.put7 HRS.out HBW.out HL1.out 32) fun g hg1 => ?_)
          (with_reducible refine Exists.elim hg1 fun v' hg2 => ?_)
          (with_reducible refine Exists.elim hg2 fun w5 hg3 => ?_)
          have h4 := hg3.1
          have hr := hg3.2.1
          (with_reducible refine asked_value (w1 := w5) (v := v') ?_ ?_ ?_)
          · simp only [Region.wanted]
          · simp [execOp, resolve, invoke, builtin, Act.eval, Act.put, h4, hr, Result.andThen]
          · exact ⟨trivial, trivial, by simpa [upd, d6] using hg3.2.2⟩
        case refine_9 =>
          intro D sp w' hD hW hdp hg
          have d7 : D 7 = true := (hdp 7 (List.mem_of_elem_eq_true (by kernel_rfl))).1
          rw [hD, d7] at hg
          (with_reducible refine asked_value (w1 := w') (v := sp 7) ?_ ?_ ?_)
          · simp only [Region.wanted]
          · simp [execOp, Act.eval, Act.put, go_sem]
          · exact ⟨trivial, trivial, by simpa [upd, d7] using hg.put8⟩
        all_goals
          intro D sp w' hD hW hdp hg
          simp [asked, Region.wanted, Oper.gives, execOp, Act.eval, Act.put, go_sem]
      · intro sp w9 hsp hg
        obtain ⟨w1', x', k1, k2, k3, k4, k5, k6⟩ := hg.fin rfl
        have e8 := (hg.same rfl).2
        have HBn : Hold (Below wY.heap.size wY w9) := ⟨(bstep HBa.out k1).grown k2 (bstep HBa.out k1).size (fun g hg => (HRS.out.own hg).1)⟩
        have HSn : Hold (RowS w9 wY.heap.size (sp 7) (us ++ [x'])) := ⟨k3⟩
        have HTn : Hold (Trip w9 33 (us ++ [x']) ((xs.take (k + 1)).map fun a => gg ^ a % P)) := ⟨by
          rw [HTK.out]
          exact ((HTa.out.below k1).grown (HRS.out.below k1) k2).snoc k4 k5⟩
        clear hsp hg k1 k2 k3 k4 k5 k6
        simp only [frameOf, Nat.reduceAdd]
        generalize sp 3 = z3 at *
        generalize sp 5 = z5 at *
        generalize sp 6 = z6 at *
        generalize sp 7 = z7 at *
        generalize sp 8 = z8 at *
        subst e8
        go_simp
        go_wp2
        go_roundw
        case rel => exact ⟨k + 1, _, by omega, by go_num, HBn, HSn, HTn⟩
        case measure => simp [intOf]; omega
    · obtain rfl : k = n := by omega
      have hkn' : ¬ (k : Int) < k := by omega
      have htk : xs.take k = xs := List.take_of_length_le (by rw [← HLN.out]; exact Nat.le_refl _)
      rw [htk] at HTr
      obtain ⟨pc, cc, hvc, hpc⟩ := HS.out.plist HTr.out
      rw [List.length_map, ← HLN.out] at hvc hpc
      subst hvc
      have HC7 : Hold _ := ⟨hpc⟩
      clear htk hpc HS HTr
      obtain ⟨w7, hw7⟩ : ∃ x, x = wr := ⟨_, rfl⟩
      subst hw7
      obtain ⟨n, hkk⟩ : ∃ n, n = k := ⟨_, rfl⟩
      subst hkk
      obtain ⟨EA, hEA⟩ : ∃ V, horQ q X xs = V := ⟨_, rfl⟩
      obtain ⟨EB, hEB⟩ : ∃ V, horQ q X ls = V := ⟨_, rfl⟩
      have HEX : Hold (horE P (X % q) (xs.map fun a => gg ^ a % P) = gg ^ EA % P) := ⟨by rw [← hEA]; exact exps_val HGM.out HP2.out xs⟩
      have HSUM : Hold (horQ q X (addQ q xs ls) = (EA + EB) % q) := ⟨by rw [← hEA, ← hEB]; exact hor_add HPQ.out.1 xs ls⟩
      have HPRO : Hold (horQ q X xs * horQ q X ls % q = EA * EB % q) := ⟨by rw [hEA, hEB]⟩
      have HEA : Hold _ := ⟨hEA⟩
      have HEB : Hold _ := ⟨hEB⟩
      clear hEA hEB
      have HR7 : Hold _ := ⟨HRY.out.below HB.out⟩
      have HG7 : Hold _ := ⟨HGY.out.below HB.out⟩
      have HP7 : Hold _ := ⟨HPX.out.below HB.out⟩
      have HQ7 : Hold _ := ⟨HPL.out.below HB.out⟩
      have HBY : Hold _ := ⟨HBY0.out.below HB.out HBY0.out.lt⟩
      have HFY7 : Hold _ := ⟨HFY0.out.below HB.out⟩
      have B7 : Hold _ := ⟨bstep BY.out HB.out⟩
      go_wp2
      refine wp_region_dutiesS (by kernel_rfl) (by kernel_rfl)
        [some (.pointer (some ⟨r, 0, none⟩)), some (.slice p4 n c4), some (.agg #[.slice py ny cy]), none, some (.pointer (some ⟨r, 0, none⟩)), some (.slice p5 nl c5), some (.agg #[.slice py ny cy]), none, none, none, none, none]
        [false, false, false, true, false, false, false, true, true, true, true, true] rfl
        (fun _ _ => True) (fun D sp w' => TB w7 EA EB (D 3) (D 7) (D 8) (D 9) (D 10) (D 11) (sp 3) (sp 7) (sp 8) (sp 9) w') (fun _ _ _ => True) (fun _ _ _ _ _ _ => trivial)
        TB.start ?_ ?_
      · simp only [DutiesS, Nat.reduceAdd]
        refine ⟨?_, ?_, ?_, ?_, ?_, ?_, ?_, ?_, ?_, ?_, ?_, ?_, trivial⟩
        case refine_4 =>
          intro D sp w' hD hW hdp hg
          rw [hD] at hg
          (with_reducible refine asked_call (w1 := w') (f := 37) (args := #[.pointer (some ⟨r, 0, none⟩), .slice p4 n c4, .agg #[.slice py ny cy]]) ?_ ?_ ?_)
          · simp only [Region.wanted]
          · simp [Act.eval, Act.put, go_sem]
          · refine (evaln_fit (HR7.out.below hg.bel) (HP7.out.below hg.bel) (HFY7.out.below hg.bel) (by decide) (by decide) (by omega) HEA.out).mono ?_
            rintro en w9 ⟨u, rfl, hu, hb⟩
            exact ⟨u, rfl, trivial, trivial, by simpa [upd] using (hg.later hb).put3 hu⟩
        case refine_8 =>
          intro D sp w' hD hW hdp hg
          rw [hD] at hg
          (with_reducible refine asked_call (w1 := w') (f := 37) (args := #[.pointer (some ⟨r, 0, none⟩), .slice p5 nl c5, .agg #[.slice py ny cy]]) ?_ ?_ ?_)
          · simp only [Region.wanted]
          · simp [Act.eval, Act.put, go_sem]
          · refine (evaln_fit (HR7.out.below hg.bel) (HQ7.out.below hg.bel) (HFY7.out.below hg.bel) (by decide) (by decide) (by omega) HEB.out).mono ?_
            rintro en w9 ⟨u, rfl, hu, hb⟩
            exact ⟨u, rfl, trivial, trivial, by simpa [upd] using (hg.later hb).put7 hu⟩
        case refine_9 =>
          intro D sp w' hD hW hdp hg
          rw [hD] at hg
          have d0 := hg.no10
          rw [d0] at hg
          (with_reducible refine asked_value (w1 := w'.alloc (.cells #[.slice none 0 0] 36)) (v := .pointer (some ⟨w'.heap.size, 0, none⟩)) ?_ ?_ ?_)
          · simp only [Region.wanted]
          · simp [execOp, go_sem]
          · exact ⟨trivial, trivial, by simpa [upd, d0] using hg.put8⟩
        case refine_10 =>
          intro D sp w' hD hW hdp hg
          rw [hD] at hg
          have d0 := hg.no11
          rw [d0] at hg
          (with_reducible refine asked_value (w1 := w'.alloc (.cells #[.slice none 0 0] 36)) (v := .pointer (some ⟨w'.heap.size, 0, none⟩)) ?_ ?_ ?_)
          · simp only [Region.wanted]
          · simp [execOp, go_sem]
          · exact ⟨trivial, trivial, by simpa [upd, d0] using hg.put9⟩
        case refine_11 =>
          intro D sp w' hD hW hdp hg
          have d3 : D 3 = true := (hdp 3 (List.mem_of_elem_eq_true (by kernel_rfl))).1
          have d8 : D 8 = true := (hdp 8 (List.mem_of_elem_eq_true (by kernel_rfl))).1
          rw [hD, d3, d8] at hg
          (with_reducible refine Exists.elim (hg.put10) fun b g0 => ?_)
          (with_reducible refine Exists.elim (g0) fun m g1 => ?_)
          (with_reducible refine Exists.elim (g1) fun d g2 => ?_)
          (with_reducible refine Exists.elim (g2) fun q g3 => ?_)
          (with_reducible refine Exists.elim (g3) fun p g4 => ?_)
          (with_reducible refine Exists.elim (g4) fun n9 g5 => ?_)
          (with_reducible refine Exists.elim (g5) fun c9 g6 => ?_)
          have e8 := g6.1
          have e3 := g6.2.1
          have h6 := g6.2.2.1.cell
          have h7 := g6.2.2.1.free
          (with_reducible refine asked_skip (w1 := w'.setCell ⟨b, 0, none⟩ (.slice p n9 c9)) ?_ ?_ ?_)
          · simp only [Region.wanted]
          · simp [execOp, Act.eval, Act.put, go_sem, e8, e3, h6, h7]
          · exact ⟨trivial, trivial, by simpa [upd, d3, d8] using g6.2.2.2⟩
        case refine_12 =>
          intro D sp w' hD hW hdp hg
          have d3 : D 7 = true := (hdp 7 (List.mem_of_elem_eq_true (by kernel_rfl))).1
          have d8 : D 9 = true := (hdp 9 (List.mem_of_elem_eq_true (by kernel_rfl))).1
          rw [hD, d3, d8] at hg
          (with_reducible refine Exists.elim (hg.put11) fun b g0 => ?_)
          (with_reducible refine Exists.elim (g0) fun m g1 => ?_)
          (with_reducible refine Exists.elim (g1) fun d g2 => ?_)
          (with_reducible refine Exists.elim (g2) fun q g3 => ?_)
          (with_reducible refine Exists.elim (g3) fun p g4 => ?_)
          (with_reducible refine Exists.elim (g4) fun n9 g5 => ?_)
          (with_reducible refine Exists.elim (g5) fun c9 g6 => ?_)
          have e8 := g6.1
          have e3 := g6.2.1
          have h6 := g6.2.2.1.cell
          have h7 := g6.2.2.1.free
          (with_reducible refine asked_skip (w1 := w'.setCell ⟨b, 0, none⟩ (.slice p n9 c9)) ?_ ?_ ?_)
          · simp only [Region.wanted]
          · simp [execOp, Act.eval, Act.put, go_sem, e8, e3, h6, h7]
          · exact ⟨trivial, trivial, by simpa [upd, d3, d8] using g6.2.2.2⟩
        all_goals
          intro D sp w' hD hW hdp hg
          have c0 := (HBY.out.below hg.bel HBY.out.lt).cell
          simp [asked, Region.wanted, Oper.gives, execOp, Act.eval, Act.put, go_sem, c0]
      · intro sp w9 hsp hg
        obtain ⟨bA, e17, _, ⟨pa, na, ca, hA1, hA2⟩, _⟩ := hg.b8 rfl
        obtain ⟨bB, e18, _, ⟨pb, nb, cb, hB1, hB2⟩, _⟩ := hg.b9 rfl
        obtain ⟨_, _, _, _, _, lA⟩ := hg.p3 rfl
        obtain ⟨_, _, _, _, _, lB⟩ := hg.p7 rfl
        have HBA : Hold _ := ⟨hA1⟩
        have HBB : Hold _ := ⟨hB1⟩
        have HFA : Hold _ := ⟨Fit.of (hA2 rfl) lA⟩
        have HFB : Hold _ := ⟨Fit.of (hB2 rfl) lB⟩
        have HBY' : Hold _ := ⟨HBY.out.below hg.bel HBY.out.lt⟩
        have HFY : Hold _ := ⟨HFY7.out.below hg.bel⟩
        have HR9 : Hold _ := ⟨HR7.out.below hg.bel⟩
        have HG9 : Hold _ := ⟨HG7.out.below hg.bel⟩
        have HP9 : Hold _ := ⟨HP7.out.below hg.bel⟩
        have HQ9 : Hold _ := ⟨HQ7.out.below hg.bel⟩
        have HC9 : Hold _ := ⟨HC7.out.below hg.bel⟩
        have B9 : Hold _ := ⟨bstep B7.out hg.bel⟩
        clear HBY HFY7 HR7 HG7 HP7 HQ7 HC7 B7 hA1 hA2 hB1 hB2 lA lB hsp hg
        have HBY : Hold _ := ⟨HBY'.out⟩
        clear HBY'
        simp only [frameOf, Nat.reduceAdd]
        generalize sp 3 = z3 at *
        generalize sp 7 = z7 at *
        generalize sp 8 = z8 at *
        generalize sp 9 = z9 at *
        subst e17 e18
        go_simp
        go_wp2
        refine wp_region_duties (by kernel_rfl) (by kernel_rfl)
          [some (.pointer (some ⟨b, 0, none⟩)), some (.slice pc n cc), some (.agg #[.slice py ny cy]), none, some (.pointer (some ⟨b, 0, none⟩)), some (.pointer (some ⟨b, 0, none⟩)), none, some (.agg #[.slice pa na ca]), none, none, some (.bool false), some (.bool false), some (.pointer (some ⟨r, 0, none⟩)), some (.pointer (some ⟨r, 0, none⟩)), some (.slice p4 n c4), some (.slice p5 nl c5), none, some (.agg #[.slice py ny cy]), none, some (.pointer (some ⟨r, 0, none⟩)), some (.agg #[.slice pa na ca]), some (.agg #[.slice pb nb cb]), none, none, some (.bool false), some (.bool false)]
          [false, false, false, true, false, false, true, false, true, true, false, false, false, false, false, false, true, false, true, false, false, false, true, true, false, false] rfl
          (fun w1 w2 => Below w1.heap.size w1 w2)
          (fun _ w' => Below w9.heap.size w9 w')
          (fun i v w' => match i with
            | 3 => Fit 33 (gg ^ EA % P) v w'
            | 6 => Fit 33 gg v w'
            | 8 => Fit 33 (gg ^ EA % P) v w'
            | 9 => v = .int .i64 0
            | 16 => PlF (max n nl) (addQ q xs ls) v w'
            | 18 => Fit 33 ((EA + EB) % q) v w'
            | 22 => Fit 33 ((EA + EB) % q) v w'
            | 23 => v = .int .i64 0
            | _ => True)
          ?_ (Below.refl _ _).drew ?_ ?_
        · intro i v w1 w2 hf hb
          split at hf
          · exact hf.below hb
          · exact hf.below hb
          · exact hf.below hb
          · exact hf
          · exact hf.below hb
          · exact hf.below hb
          · exact hf.below hb
          · exact hf
          · trivial
        · simp only [Duties, Nat.reduceAdd]
          refine ⟨?_, ?_, ?_, ?_, ?_, ?_, ?_, ?_, ?_, ?_, ?_, ?_, ?_, ?_, ?_, ?_, ?_, ?_, ?_, ?_, ?_, ?_, ?_, ?_, ?_, ?_, trivial⟩
          case refine_1 =>
            intro D sp w' hD hW hdp hbx'
            (with_reducible refine asked_value (w1 := w') (v := .pointer (some ⟨b, 0, none⟩)) ?_ ?_ ?_)
            · first | (simp only [Region.wanted]; done) | simp [Region.wanted, yielded, Act.put, go_sem]
            · simp [execOp, Act.eval, go_sem]
            · exact ⟨rfl, rfl⟩
          case refine_2 =>
            intro D sp w' hD hW hdp hbx'
            (with_reducible refine asked_value (w1 := w') (v := .slice pc n cc) ?_ ?_ ?_)
            · first | (simp only [Region.wanted]; done) | simp [Region.wanted, yielded, Act.put, go_sem]
            · simp [execOp, Act.eval, Act.put, go_sem]
            · exact ⟨rfl, rfl⟩
          case refine_3 =>
            intro D sp w' hD hW hdp hbx'
            have c0 := (HBY.out.below hbx' HBY.out.lt).cell
            (with_reducible refine asked_value (w1 := w') (v := .agg #[.slice py ny cy]) ?_ ?_ ?_)
            · first | (simp only [Region.wanted]; done) | simp [Region.wanted, yielded, Act.put, go_sem]
            · simp [execOp, Act.eval, Act.put, go_sem, c0]
            · exact ⟨rfl, rfl⟩
          case refine_4 =>
            intro D sp w' hD hW hdp hbx'
            (with_reducible refine asked_call (w1 := w') (f := 41) (args := #[.pointer (some ⟨b, 0, none⟩), .slice pc n cc, .agg #[.slice py ny cy]]) ?_ ?_ ?_)
            · first | (simp only [Region.wanted]; done) | simp [Region.wanted, yielded, Act.put, go_sem]
            · simp [Act.eval, Act.put, go_sem]
            · refine (evalx_fit (HG9.out.below hbx') (HC9.out.below hbx') (HFY.out.below hbx') (by decide) (by decide) (by omega) HEX.out).mono ?_
              rintro en w9 ⟨u, rfl, hu, hb⟩
              exact ⟨u, rfl, hb, hu, bstep hbx' hb⟩
          case refine_5 =>
            intro D sp w' hD hW hdp hbx'
            (with_reducible refine asked_value (w1 := w') (v := .pointer (some ⟨b, 0, none⟩)) ?_ ?_ ?_)
            · first | (simp only [Region.wanted]; done) | simp [Region.wanted, yielded, Act.put, go_sem]
            · simp [execOp, Act.eval, Act.put, go_sem]
            · exact ⟨rfl, rfl⟩
          case refine_6 =>
            intro D sp w' hD hW hdp hbx'
            (with_reducible refine asked_value (w1 := w') (v := .pointer (some ⟨b, 0, none⟩)) ?_ ?_ ?_)
            · first | (simp only [Region.wanted]; done) | simp [Region.wanted, yielded, Act.put, go_sem]
            · simp [execOp, Act.eval, Act.put, go_sem]
            · exact ⟨rfl, rfl⟩
          case refine_7 =>
            intro D sp w' hD hW hdp hbx'
            (with_reducible refine asked_call (w1 := w') (f := 40) (args := #[.pointer (some ⟨b, 0, none⟩)]) ?_ ?_ ?_)
            · first | (simp only [Region.wanted]; done) | simp [Region.wanted, yielded, Act.put, go_sem]
            · simp [Act.eval, Act.put, go_sem]
            · refine (gG_fit (HG9.out.below hbx')).mono ?_
              rintro en w9 ⟨u, rfl, hu, hb⟩
              exact ⟨u, rfl, hb, hu, bstep hbx' hb⟩
          case refine_8 =>
            intro D sp w' hD hW hdp hbx'
            have c0 := (HBA.out.below hbx' HBA.out.lt).cell
            (with_reducible refine asked_value (w1 := w') (v := .agg #[.slice pa na ca]) ?_ ?_ ?_)
            · first | (simp only [Region.wanted]; done) | simp [Region.wanted, yielded, Act.put, go_sem]
            · simp [execOp, Act.eval, Act.put, go_sem, c0]
            · exact ⟨rfl, rfl⟩
          case refine_9 =>
            intro D sp w' hD hW hdp hbx'
            have k6 : Fit 33 gg (sp 6) w' := (hdp 6 (List.mem_of_elem_eq_true (by kernel_rfl))).2
            (with_reducible refine asked_call (w1 := w') (f := 39) (args := #[.pointer (some ⟨b, 0, none⟩), sp 6, .agg #[.slice pa na ca]]) ?_ ?_ ?_)
            · first | (simp only [Region.wanted]; done) | simp [Region.wanted, yielded, Act.put, go_sem]
            · simp [Act.eval, Act.put, go_sem]
            · refine (gexp_fit (HG9.out.below hbx') k6 (HFA.out.below hbx') (by decide) (by decide)).mono ?_
              rintro en w9 ⟨u, rfl, hu, hb⟩
              exact ⟨u, rfl, hb, hu, bstep hbx' hb⟩
          case refine_10 =>
            intro D sp w' hD hW hdp hbx'
            have k3 : Fit 33 (gg ^ EA % P) (sp 3) w' := (hdp 3 (List.mem_of_elem_eq_true (by kernel_rfl))).2
            have k8 : Fit 33 (gg ^ EA % P) (sp 8) w' := (hdp 8 (List.mem_of_elem_eq_true (by kernel_rfl))).2
            (with_reducible refine asked_call (w1 := w') (f := 35) (args := #[sp 3, sp 8]) ?_ ?_ ?_)
            · first | (simp only [Region.wanted]; done) | simp [Region.wanted, yielded, Act.put, go_sem]
            · simp [Act.eval, Act.put, go_sem]
            · refine (cmp_fitK k3 k8 (by decide) (by decide) (cmpI_zero.2 rfl)).mono ?_
              rintro en w9 ⟨_, rfl, rfl, hb⟩
              exact ⟨_, rfl, hb, rfl, bstep hbx' hb⟩
          case refine_11 =>
            intro D sp w' hD hW hdp hbx'
            have k9 : (sp 9) = .int .i64 0 := (hdp 9 (List.mem_of_elem_eq_true (by kernel_rfl))).2
            (with_reducible refine asked_value (w1 := w') (v := .bool false) ?_ ?_ ?_)
            · first | (simp only [Region.wanted]; done) | simp [Region.wanted, yielded, Act.put, go_sem, k9]
            · simp [execOp, Act.eval, Act.put, go_sem, k9]
            · exact ⟨rfl, rfl⟩
          case refine_12 =>
            intro D sp w' hD hW hdp hbx'
            (with_reducible refine asked_value (w1 := w') (v := .bool false) ?_ ?_ ?_)
            · first | (simp only [Region.wanted]; done) | simp [Region.wanted, yielded, Act.put, go_sem]
            · simp [execOp, Act.eval, Act.put, go_sem]
            · exact ⟨rfl, rfl⟩
          case refine_13 =>
            intro D sp w' hD hW hdp hbx'
            (with_reducible refine asked_value (w1 := w') (v := .pointer (some ⟨r, 0, none⟩)) ?_ ?_ ?_)
            · first | (simp only [Region.wanted]; done) | simp [Region.wanted, yielded, Act.put, go_sem]
            · simp [execOp, Act.eval, Act.put, go_sem]
            · exact ⟨rfl, rfl⟩
          case refine_14 =>
            intro D sp w' hD hW hdp hbx'
            (with_reducible refine asked_value (w1 := w') (v := .pointer (some ⟨r, 0, none⟩)) ?_ ?_ ?_)
            · first | (simp only [Region.wanted]; done) | simp [Region.wanted, yielded, Act.put, go_sem]
            · simp [execOp, Act.eval, Act.put, go_sem]
            · exact ⟨rfl, rfl⟩
          case refine_15 =>
            intro D sp w' hD hW hdp hbx'
            (with_reducible refine asked_value (w1 := w') (v := .slice p4 n c4) ?_ ?_ ?_)
            · first | (simp only [Region.wanted]; done) | simp [Region.wanted, yielded, Act.put, go_sem]
            · simp [execOp, Act.eval, Act.put, go_sem]
            · exact ⟨rfl, rfl⟩
          case refine_16 =>
            intro D sp w' hD hW hdp hbx'
            (with_reducible refine asked_value (w1 := w') (v := .slice p5 nl c5) ?_ ?_ ?_)
            · first | (simp only [Region.wanted]; done) | simp [Region.wanted, yielded, Act.put, go_sem]
            · simp [execOp, Act.eval, Act.put, go_sem]
            · exact ⟨rfl, rfl⟩
          case refine_17 =>
            intro D sp w' hD hW hdp hbx'
            (with_reducible refine asked_call (w1 := w') (f := 42) (args := #[.pointer (some ⟨r, 0, none⟩), .slice p4 n c4, .slice p5 nl c5]) ?_ ?_ ?_)
            · first | (simp only [Region.wanted]; done) | simp [Region.wanted, yielded, Act.put, go_sem]
            · simp [Act.eval, Act.put, go_sem]
            · refine (addp_fit (HR9.out.below hbx') (HP9.out.below hbx') (HQ9.out.below hbx') (by decide) (by decide) (by omega) (by omega)).mono ?_
              rintro en w9 ⟨u, rfl, hu, hb⟩
              exact ⟨u, rfl, hb, hu, bstep hbx' hb⟩
          case refine_18 =>
            intro D sp w' hD hW hdp hbx'
            have c0 := (HBY.out.below hbx' HBY.out.lt).cell
            (with_reducible refine asked_value (w1 := w') (v := .agg #[.slice py ny cy]) ?_ ?_ ?_)
            · first | (simp only [Region.wanted]; done) | simp [Region.wanted, yielded, Act.put, go_sem]
            · simp [execOp, Act.eval, Act.put, go_sem, c0]
            · exact ⟨rfl, rfl⟩
          case refine_19 =>
            intro D sp w' hD hW hdp hbx'
            have k16 : PlF (max n nl) (addQ q xs ls) (sp 16) w' := (hdp 16 (List.mem_of_elem_eq_true (by kernel_rfl))).2
            (with_reducible refine asked_call (w1 := w') (f := 37) (args := #[.pointer (some ⟨r, 0, none⟩), sp 16, .agg #[.slice py ny cy]]) ?_ ?_ ?_)
            · first | (simp only [Region.wanted]; done) | simp [Region.wanted, yielded, Act.put, go_sem]
            · simp [Act.eval, Act.put, go_sem]
            · refine (evalp_fit (HR9.out.below hbx') k16 (HFY.out.below hbx') (by decide) (by omega) HSUM.out).mono ?_
              rintro en w9 ⟨u, rfl, hu, hb⟩
              exact ⟨u, rfl, hb, hu, bstep hbx' hb⟩
          case refine_20 =>
            intro D sp w' hD hW hdp hbx'
            (with_reducible refine asked_value (w1 := w') (v := .pointer (some ⟨r, 0, none⟩)) ?_ ?_ ?_)
            · first | (simp only [Region.wanted]; done) | simp [Region.wanted, yielded, Act.put, go_sem]
            · simp [execOp, Act.eval, Act.put, go_sem]
            · exact ⟨rfl, rfl⟩
          case refine_21 =>
            intro D sp w' hD hW hdp hbx'
            have c0 := (HBA.out.below hbx' HBA.out.lt).cell
            (with_reducible refine asked_value (w1 := w') (v := .agg #[.slice pa na ca]) ?_ ?_ ?_)
            · first | (simp only [Region.wanted]; done) | simp [Region.wanted, yielded, Act.put, go_sem]
            · simp [execOp, Act.eval, Act.put, go_sem, c0]
            · exact ⟨rfl, rfl⟩
          case refine_22 =>
            intro D sp w' hD hW hdp hbx'
            have c0 := (HBB.out.below hbx' HBB.out.lt).cell
            (with_reducible refine asked_value (w1 := w') (v := .agg #[.slice pb nb cb]) ?_ ?_ ?_)
            · first | (simp only [Region.wanted]; done) | simp [Region.wanted, yielded, Act.put, go_sem]
            · simp [execOp, Act.eval, Act.put, go_sem, c0]
            · exact ⟨rfl, rfl⟩
          case refine_23 =>
            intro D sp w' hD hW hdp hbx'
            (with_reducible refine asked_call (w1 := w') (f := 43) (args := #[.pointer (some ⟨r, 0, none⟩), .agg #[.slice pa na ca], .agg #[.slice pb nb cb]]) ?_ ?_ ?_)
            · first | (simp only [Region.wanted]; done) | simp [Region.wanted, yielded, Act.put, go_sem]
            · simp [Act.eval, Act.put, go_sem]
            · refine (rngadd_fit (HR9.out.below hbx') (HFA.out.below hbx') (HFB.out.below hbx') (by decide) (by decide)).mono ?_
              rintro en w9 ⟨u, rfl, hu, hb⟩
              exact ⟨u, rfl, hb, hu, bstep hbx' hb⟩
          case refine_24 =>
            intro D sp w' hD hW hdp hbx'
            have k18 : Fit 33 ((EA + EB) % q) (sp 18) w' := (hdp 18 (List.mem_of_elem_eq_true (by kernel_rfl))).2
            have k22 : Fit 33 ((EA + EB) % q) (sp 22) w' := (hdp 22 (List.mem_of_elem_eq_true (by kernel_rfl))).2
            (with_reducible refine asked_call (w1 := w') (f := 35) (args := #[sp 18, sp 22]) ?_ ?_ ?_)
            · first | (simp only [Region.wanted]; done) | simp [Region.wanted, yielded, Act.put, go_sem]
            · simp [Act.eval, Act.put, go_sem]
            · refine (cmp_fitK k18 k22 (by decide) (by decide) (cmpI_zero.2 rfl)).mono ?_
              rintro en w9 ⟨_, rfl, rfl, hb⟩
              exact ⟨_, rfl, hb, rfl, bstep hbx' hb⟩
          case refine_25 =>
            intro D sp w' hD hW hdp hbx'
            have k23 : (sp 23) = .int .i64 0 := (hdp 23 (List.mem_of_elem_eq_true (by kernel_rfl))).2
            (with_reducible refine asked_value (w1 := w') (v := .bool false) ?_ ?_ ?_)
            · first | (simp only [Region.wanted]; done) | simp [Region.wanted, yielded, Act.put, go_sem, k23]
            · simp [execOp, Act.eval, Act.put, go_sem, k23]
            · exact ⟨rfl, rfl⟩
          case refine_26 =>
            intro D sp w' hD hW hdp hbx'
            (with_reducible refine asked_value (w1 := w') (v := .bool false) ?_ ?_ ?_)
            · first | (simp only [Region.wanted]; done) | simp [Region.wanted, yielded, Act.put, go_sem]
            · simp [execOp, Act.eval, Act.put, go_sem]
            · exact ⟨rfl, rfl⟩
        · intro sp w10 hsp hbx'
          have HBY8 : Hold _ := ⟨HBY.out.below hbx' HBY.out.lt⟩
          have HBA8 : Hold _ := ⟨HBA.out.below hbx' HBA.out.lt⟩
          have HBB8 : Hold _ := ⟨HBB.out.below hbx' HBB.out.lt⟩
          have HFY8 : Hold _ := ⟨HFY.out.below hbx'⟩
          have HFA8 : Hold _ := ⟨HFA.out.below hbx'⟩
          have HFB8 : Hold _ := ⟨HFB.out.below hbx'⟩
          have HR8 : Hold _ := ⟨HR9.out.below hbx'⟩
          have HP8 : Hold _ := ⟨HP9.out.below hbx'⟩
          have HQ8 : Hold _ := ⟨HQ9.out.below hbx'⟩
          have B10 : Hold _ := ⟨bstep B9.out hbx'⟩
          clear hsp hbx' HBY HBA HBB HFY HFA HFB HR9 HG9 HP9 HQ9 HC9 B9
          simp only [frameOf, Nat.reduceAdd]
          generalize sp 3 = y3 at *
          generalize sp 6 = y6 at *
          generalize sp 8 = y8 at *
          generalize sp 9 = y9 at *
          generalize sp 16 = y16 at *
          generalize sp 18 = y18 at *
          generalize sp 22 = y22 at *
          generalize sp 23 = y23 at *
          go_simp
          by_cases hn : 0 < n
          · have hn0 : (0 : Int) < n := by omega
            by_cases hm : 0 < nl
            · have hm0 : (0 : Int) < nl := by omega
              go_wp2
              refine wp_region_duties (by kernel_rfl) (by kernel_rfl)
                [some (.slice p4 n c4), some (.int .i64 n), some (.bool true), some (.bool true), some (.slice p5 nl c5), some (.int .i64 nl), some (.bool true), some (.bool true), some (.bool true), some (.pointer (some ⟨r, 0, none⟩)), some (.pointer (some ⟨r, 0, none⟩)), some (.slice p4 n c4), some (.slice p5 nl c5), none, some (.agg #[.slice py ny cy]), none, some (.pointer (some ⟨r, 0, none⟩)), some (.agg #[.slice pa na ca]), some (.agg #[.slice pb nb cb]), none, none, some (.bool false), some (.bool false)]
                [false, false, false, false, false, false, false, false, false, false, false, false, false, true, false, true, false, false, false, true, true, false, false] rfl
                (fun w1 w2 => Below w1.heap.size w1 w2)
                (fun _ w' => Below w10.heap.size w10 w')
                (fun i v w' => match i with
                  | 13 => MuF q (n + nl - 1) xs ls v w'
                  | 15 => Fit 33 (EA * EB % q) v w'
                  | 19 => Fit 33 (EA * EB % q) v w'
                  | 20 => v = .int .i64 0
                  | _ => True)
                ?_ (Below.refl _ _).drew ?_ ?_
              · intro i v w1 w2 hf hb
                split at hf
                · exact hf.below hb
                · exact hf.below hb
                · exact hf.below hb
                · exact hf
                · trivial
              · simp only [Duties, Nat.reduceAdd]
                refine ⟨?_, ?_, ?_, ?_, ?_, ?_, ?_, ?_, ?_, ?_, ?_, ?_, ?_, ?_, ?_, ?_, ?_, ?_, ?_, ?_, ?_, ?_, ?_, trivial⟩
                case refine_1 =>
                  intro D sp w' hD hW hdp hbx'
                  (with_reducible refine asked_value (w1 := w') (v := .slice p4 n c4) ?_ ?_ ?_)
                  · first | (simp only [Region.wanted]; done) | simp [Region.wanted, yielded, Act.put, go_sem]
                  · simp [execOp, Act.eval, go_sem]
                  · exact ⟨rfl, rfl⟩
                case refine_2 =>
                  intro D sp w' hD hW hdp hbx'
                  (with_reducible refine asked_value (w1 := w') (v := .int .i64 n) ?_ ?_ ?_)
                  · first | (simp only [Region.wanted]; done) | simp [Region.wanted, yielded, Act.put, go_sem]
                  · simp [Act.eval, Act.put, go_sem]
                  · exact ⟨rfl, rfl⟩
                case refine_3 =>
                  intro D sp w' hD hW hdp hbx'
                  (with_reducible refine asked_value (w1 := w') (v := .bool true) ?_ ?_ ?_)
                  · first | (simp only [Region.wanted]; done) | simp [Region.wanted, yielded, Act.put, go_sem]
                  · simp [execOp, Act.eval, Act.put, go_sem, hn]
                  · exact ⟨rfl, rfl⟩
                case refine_4 =>
                  intro D sp w' hD hW hdp hbx'
                  (with_reducible refine asked_value (w1 := w') (v := .bool true) ?_ ?_ ?_)
                  · first | (simp only [Region.wanted]; done) | simp [Region.wanted, yielded, Act.put, go_sem]
                  · simp [execOp, Act.eval, Act.put, go_sem]
                  · exact ⟨rfl, rfl⟩
                case refine_5 =>
                  intro D sp w' hD hW hdp hbx'
                  (with_reducible refine asked_value (w1 := w') (v := .slice p5 nl c5) ?_ ?_ ?_)
                  · first | (simp only [Region.wanted]; done) | simp [Region.wanted, yielded, Act.put, go_sem]
                  · simp [execOp, Act.eval, Act.put, go_sem]
                  · exact ⟨rfl, rfl⟩
                case refine_6 =>
                  intro D sp w' hD hW hdp hbx'
                  (with_reducible refine asked_value (w1 := w') (v := .int .i64 nl) ?_ ?_ ?_)
                  · first | (simp only [Region.wanted]; done) | simp [Region.wanted, yielded, Act.put, go_sem]
                  · simp [Act.eval, Act.put, go_sem]
                  · exact ⟨rfl, rfl⟩
                case refine_7 =>
                  intro D sp w' hD hW hdp hbx'
                  (with_reducible refine asked_value (w1 := w') (v := .bool true) ?_ ?_ ?_)
                  · first | (simp only [Region.wanted]; done) | simp [Region.wanted, yielded, Act.put, go_sem]
                  · simp [execOp, Act.eval, Act.put, go_sem, hm]
                  · exact ⟨rfl, rfl⟩
                case refine_8 =>
                  intro D sp w' hD hW hdp hbx'
                  (with_reducible refine asked_value (w1 := w') (v := .bool true) ?_ ?_ ?_)
                  · first | (simp only [Region.wanted]; done) | simp [Region.wanted, yielded, Act.put, go_sem]
                  · simp [execOp, Act.eval, Act.put, go_sem]
                  · exact ⟨rfl, rfl⟩
                case refine_9 =>
                  intro D sp w' hD hW hdp hbx'
                  (with_reducible refine asked_value (w1 := w') (v := .bool true) ?_ ?_ ?_)
                  · first | (simp only [Region.wanted]; done) | simp [Region.wanted, yielded, Act.put, go_sem]
                  · simp [execOp, Act.eval, Act.put, go_sem]
                  · exact ⟨rfl, rfl⟩
                case refine_10 =>
                  intro D sp w' hD hW hdp hbx'
                  (with_reducible refine asked_value (w1 := w') (v := .pointer (some ⟨r, 0, none⟩)) ?_ ?_ ?_)
                  · first | (simp only [Region.wanted]; done) | simp [Region.wanted, yielded, Act.put, go_sem]
                  · simp [execOp, Act.eval, Act.put, go_sem]
                  · exact ⟨rfl, rfl⟩
                case refine_11 =>
                  intro D sp w' hD hW hdp hbx'
                  (with_reducible refine asked_value (w1 := w') (v := .pointer (some ⟨r, 0, none⟩)) ?_ ?_ ?_)
                  · first | (simp only [Region.wanted]; done) | simp [Region.wanted, yielded, Act.put, go_sem]
                  · simp [execOp, Act.eval, Act.put, go_sem]
                  · exact ⟨rfl, rfl⟩
                case refine_12 =>
                  intro D sp w' hD hW hdp hbx'
                  (with_reducible refine asked_value (w1 := w') (v := .slice p4 n c4) ?_ ?_ ?_)
                  · first | (simp only [Region.wanted]; done) | simp [Region.wanted, yielded, Act.put, go_sem]
                  · simp [execOp, Act.eval, Act.put, go_sem]
                  · exact ⟨rfl, rfl⟩
                case refine_13 =>
                  intro D sp w' hD hW hdp hbx'
                  (with_reducible refine asked_value (w1 := w') (v := .slice p5 nl c5) ?_ ?_ ?_)
                  · first | (simp only [Region.wanted]; done) | simp [Region.wanted, yielded, Act.put, go_sem]
                  · simp [execOp, Act.eval, Act.put, go_sem]
                  · exact ⟨rfl, rfl⟩
                case refine_14 =>
                  intro D sp w' hD hW hdp hbx'
                  (with_reducible refine asked_call (w1 := w') (f := 44) (args := #[.pointer (some ⟨r, 0, none⟩), .slice p4 n c4, .slice p5 nl c5]) ?_ ?_ ?_)
                  · first | (simp only [Region.wanted]; done) | simp [Region.wanted, yielded, Act.put, go_sem]
                  · simp [Act.eval, Act.put, go_sem]
                  · refine (mulp_fit (HR8.out.below hbx') (HP8.out.below hbx') (HQ8.out.below hbx') (by decide) (by decide) (by omega) (by omega) (by omega) (by omega)).mono ?_
                    rintro en w9 ⟨u, rfl, hu, hb⟩
                    exact ⟨u, rfl, hb, hu, bstep hbx' hb⟩
                case refine_15 =>
                  intro D sp w' hD hW hdp hbx'
                  have c0 := (HBY8.out.below hbx' HBY8.out.lt).cell
                  (with_reducible refine asked_value (w1 := w') (v := .agg #[.slice py ny cy]) ?_ ?_ ?_)
                  · first | (simp only [Region.wanted]; done) | simp [Region.wanted, yielded, Act.put, go_sem]
                  · simp [execOp, Act.eval, Act.put, go_sem, c0]
                  · exact ⟨rfl, rfl⟩
                case refine_16 =>
                  intro D sp w' hD hW hdp hbx'
                  have k13 : MuF q (n + nl - 1) xs ls (sp 13) w' := (hdp 13 (List.mem_of_elem_eq_true (by kernel_rfl))).2
                  (with_reducible refine asked_call (w1 := w') (f := 37) (args := #[.pointer (some ⟨r, 0, none⟩), sp 13, .agg #[.slice py ny cy]]) ?_ ?_ ?_)
                  · first | (simp only [Region.wanted]; done) | simp [Region.wanted, yielded, Act.put, go_sem]
                  · simp [Act.eval, Act.put, go_sem]
                  · refine (evalm_fit (HR8.out.below hbx') HPQ.out.1 k13 (HFY8.out.below hbx') (by decide) (by omega) HPRO.out).mono ?_
                    rintro en w9 ⟨u, rfl, hu, hb⟩
                    exact ⟨u, rfl, hb, hu, bstep hbx' hb⟩
                case refine_17 =>
                  intro D sp w' hD hW hdp hbx'
                  (with_reducible refine asked_value (w1 := w') (v := .pointer (some ⟨r, 0, none⟩)) ?_ ?_ ?_)
                  · first | (simp only [Region.wanted]; done) | simp [Region.wanted, yielded, Act.put, go_sem]
                  · simp [execOp, Act.eval, Act.put, go_sem]
                  · exact ⟨rfl, rfl⟩
                case refine_18 =>
                  intro D sp w' hD hW hdp hbx'
                  have c0 := (HBA8.out.below hbx' HBA8.out.lt).cell
                  (with_reducible refine asked_value (w1 := w') (v := .agg #[.slice pa na ca]) ?_ ?_ ?_)
                  · first | (simp only [Region.wanted]; done) | simp [Region.wanted, yielded, Act.put, go_sem]
                  · simp [execOp, Act.eval, Act.put, go_sem, c0]
                  · exact ⟨rfl, rfl⟩
                case refine_19 =>
                  intro D sp w' hD hW hdp hbx'
                  have c0 := (HBB8.out.below hbx' HBB8.out.lt).cell
                  (with_reducible refine asked_value (w1 := w') (v := .agg #[.slice pb nb cb]) ?_ ?_ ?_)
                  · first | (simp only [Region.wanted]; done) | simp [Region.wanted, yielded, Act.put, go_sem]
                  · simp [execOp, Act.eval, Act.put, go_sem, c0]
                  · exact ⟨rfl, rfl⟩
                case refine_20 =>
                  intro D sp w' hD hW hdp hbx'
                  (with_reducible refine asked_call (w1 := w') (f := 45) (args := #[.pointer (some ⟨r, 0, none⟩), .agg #[.slice pa na ca], .agg #[.slice pb nb cb]]) ?_ ?_ ?_)
                  · first | (simp only [Region.wanted]; done) | simp [Region.wanted, yielded, Act.put, go_sem]
                  · simp [Act.eval, Act.put, go_sem]
                  · refine (rngmul_fit (HR8.out.below hbx') (HFA8.out.below hbx') (HFB8.out.below hbx') (by decide) (by decide)).mono ?_
                    rintro en w9 ⟨u, rfl, hu, hb⟩
                    exact ⟨u, rfl, hb, hu, bstep hbx' hb⟩
                case refine_21 =>
                  intro D sp w' hD hW hdp hbx'
                  have k15 : Fit 33 (EA * EB % q) (sp 15) w' := (hdp 15 (List.mem_of_elem_eq_true (by kernel_rfl))).2
                  have k19 : Fit 33 (EA * EB % q) (sp 19) w' := (hdp 19 (List.mem_of_elem_eq_true (by kernel_rfl))).2
                  (with_reducible refine asked_call (w1 := w') (f := 35) (args := #[sp 15, sp 19]) ?_ ?_ ?_)
                  · first | (simp only [Region.wanted]; done) | simp [Region.wanted, yielded, Act.put, go_sem]
                  · simp [Act.eval, Act.put, go_sem]
                  · refine (cmp_fitK k15 k19 (by decide) (by decide) (cmpI_zero.2 rfl)).mono ?_
                    rintro en w9 ⟨_, rfl, rfl, hb⟩
                    exact ⟨_, rfl, hb, rfl, bstep hbx' hb⟩
                case refine_22 =>
                  intro D sp w' hD hW hdp hbx'
                  have k20 : (sp 20) = .int .i64 0 := (hdp 20 (List.mem_of_elem_eq_true (by kernel_rfl))).2
                  (with_reducible refine asked_value (w1 := w') (v := .bool false) ?_ ?_ ?_)
                  · first | (simp only [Region.wanted]; done) | simp [Region.wanted, yielded, Act.put, go_sem, k20]
                  · simp [execOp, Act.eval, Act.put, go_sem, k20]
                  · exact ⟨rfl, rfl⟩
                case refine_23 =>
                  intro D sp w' hD hW hdp hbx'
                  (with_reducible refine asked_value (w1 := w') (v := .bool false) ?_ ?_ ?_)
                  · first | (simp only [Region.wanted]; done) | simp [Region.wanted, yielded, Act.put, go_sem]
                  · simp [execOp, Act.eval, Act.put, go_sem]
                  · exact ⟨rfl, rfl⟩
              · intro sp w11 hsp hbx'
                have B11 : Hold _ := ⟨bstep B10.out hbx'⟩
                have HAD : Hold _ := ⟨cadd_fit (HR8.out.below hbx') (HP8.out.below hbx') (HQ8.out.below hbx') (by decide) (by decide) (by omega) (by omega)⟩
                clear hsp hbx' HR8 HP8 HQ8 hn hn0 hm0 hm
                simp only [frameOf, Nat.reduceAdd]
                generalize sp 13 = y13 at *
                generalize sp 15 = y15 at *
                generalize sp 19 = y19 at *
                generalize sp 20 = y20 at *
                go_simp
                obtain ⟨L, hL⟩ : ∃ L, max n nl = L := ⟨_, rfl⟩
                rw [hL] at HAD
                have HCASE : Hold (((nl : Int) = L ∧ (n : Int) < L ∧ (n : Int) ≤ L ∧ ¬ (L : Int) < n ∧ ¬ (L : Int) ≤ n ∧ max (n : Int) (L : Int) = L) ∨ ((n : Int) = L ∧ (nl : Int) ≤ L ∧ ¬ (L : Int) < nl ∧ max (L : Int) (nl : Int) = L ∧ ((L : Int) ≤ nl ↔ nl = L) ∧ ((nl : Int) < L ↔ nl < L))) := ⟨by omega⟩
                clear hL hn8' hm8'
                go_wp2_with fail
                refine HAD.out.mono ?_
                rintro en w12 ⟨rfl, _, b12⟩
                have B12 : Hold _ := ⟨bstep B11.out b12⟩
                clear b12
                rcases HCASE.out with ⟨hx1, hx2, hx3, hx4, hx5, hx6⟩ | ⟨hx1, hx2, hx3, hx4, hx5, hx6⟩
                all_goals
                  go_wp2
                  go_ret
                  exact ⟨rfl, B12.out⟩

            · have hm0 : ¬ (0 : Int) < nl := by omega
              go_wp2
              have hm1 : nl = 0 := by omega
              refine wp_region_duties (by kernel_rfl) (by kernel_rfl)
                [some (.slice p4 n c4), some (.int .i64 n), some (.bool true), some (.bool true), some (.slice p5 nl c5), some (.int .i64 nl), some (.bool false), some (.bool false), some (.bool false), some (undef), some (undef), some (undef), some (undef), some (undef), some (undef), some (undef), some (undef), some (undef), some (undef), some (undef), some (undef), some (undef), some (.bool false)]
                [false, false, false, false, false, false, false, false, false, false, false, false, false, false, false, false, false, false, false, false, false, false, false] rfl
                (fun w1 w2 => Below w1.heap.size w1 w2)
                (fun _ w' => Below w10.heap.size w10 w')
                (fun i v w' => match i with
                  | _ => True)
                ?_ (Below.refl _ _).drew ?_ ?_
              · intro i v w1 w2 hf hb
                split at hf
                · trivial
              · simp only [Duties, Nat.reduceAdd]
                refine ⟨?_, ?_, ?_, ?_, ?_, ?_, ?_, ?_, ?_, ?_, ?_, ?_, ?_, ?_, ?_, ?_, ?_, ?_, ?_, ?_, ?_, ?_, ?_, trivial⟩
                case refine_1 =>
                  intro D sp w' hD hW hdp hbx'
                  (with_reducible refine asked_value (w1 := w') (v := .slice p4 n c4) ?_ ?_ ?_)
                  · first | (simp only [Region.wanted]; done) | simp [Region.wanted, yielded, Act.put, go_sem]
                  · simp [execOp, Act.eval, go_sem]
                  · exact ⟨rfl, rfl⟩
                case refine_2 =>
                  intro D sp w' hD hW hdp hbx'
                  (with_reducible refine asked_value (w1 := w') (v := .int .i64 n) ?_ ?_ ?_)
                  · first | (simp only [Region.wanted]; done) | simp [Region.wanted, yielded, Act.put, go_sem]
                  · simp [Act.eval, Act.put, go_sem]
                  · exact ⟨rfl, rfl⟩
                case refine_3 =>
                  intro D sp w' hD hW hdp hbx'
                  (with_reducible refine asked_value (w1 := w') (v := .bool true) ?_ ?_ ?_)
                  · first | (simp only [Region.wanted]; done) | simp [Region.wanted, yielded, Act.put, go_sem]
                  · simp [execOp, Act.eval, Act.put, go_sem, hn]
                  · exact ⟨rfl, rfl⟩
                case refine_4 =>
                  intro D sp w' hD hW hdp hbx'
                  (with_reducible refine asked_value (w1 := w') (v := .bool true) ?_ ?_ ?_)
                  · first | (simp only [Region.wanted]; done) | simp [Region.wanted, yielded, Act.put, go_sem]
                  · simp [execOp, Act.eval, Act.put, go_sem]
                  · exact ⟨rfl, rfl⟩
                case refine_5 =>
                  intro D sp w' hD hW hdp hbx'
                  (with_reducible refine asked_value (w1 := w') (v := .slice p5 nl c5) ?_ ?_ ?_)
                  · first | (simp only [Region.wanted]; done) | simp [Region.wanted, yielded, Act.put, go_sem]
                  · simp [execOp, Act.eval, Act.put, go_sem]
                  · exact ⟨rfl, rfl⟩
                case refine_6 =>
                  intro D sp w' hD hW hdp hbx'
                  (with_reducible refine asked_value (w1 := w') (v := .int .i64 nl) ?_ ?_ ?_)
                  · first | (simp only [Region.wanted]; done) | simp [Region.wanted, yielded, Act.put, go_sem]
                  · simp [Act.eval, Act.put, go_sem]
                  · exact ⟨rfl, rfl⟩
                case refine_7 =>
                  intro D sp w' hD hW hdp hbx'
                  (with_reducible refine asked_value (w1 := w') (v := .bool false) ?_ ?_ ?_)
                  · first | (simp only [Region.wanted]; done) | simp [Region.wanted, yielded, Act.put, go_sem]
                  · simp [execOp, Act.eval, Act.put, go_sem, hm1]
                  · exact ⟨rfl, rfl⟩
                case refine_8 =>
                  intro D sp w' hD hW hdp hbx'
                  (with_reducible refine asked_value (w1 := w') (v := .bool false) ?_ ?_ ?_)
                  · first | (simp only [Region.wanted]; done) | simp [Region.wanted, yielded, Act.put, go_sem]
                  · simp [execOp, Act.eval, Act.put, go_sem]
                  · exact ⟨rfl, rfl⟩
                case refine_9 =>
                  intro D sp w' hD hW hdp hbx'
                  (with_reducible refine asked_value (w1 := w') (v := .bool false) ?_ ?_ ?_)
                  · first | (simp only [Region.wanted]; done) | simp [Region.wanted, yielded, Act.put, go_sem]
                  · simp [execOp, Act.eval, Act.put, go_sem]
                  · exact ⟨rfl, rfl⟩
                case refine_10 =>
                  intro D sp w' hD hW hdp hbx'
                  (with_reducible refine asked_not ?_ ?_)
                  · (simp [Region.wanted, yielded, Act.put, go_sem] <;> exact fun h => by cases h)
                  · exact ⟨rfl, rfl⟩
                case refine_11 =>
                  intro D sp w' hD hW hdp hbx'
                  (with_reducible refine asked_not ?_ ?_)
                  · (simp [Region.wanted, yielded, Act.put, go_sem] <;> exact fun h => by cases h)
                  · exact ⟨rfl, rfl⟩
                case refine_12 =>
                  intro D sp w' hD hW hdp hbx'
                  (with_reducible refine asked_not ?_ ?_)
                  · (simp [Region.wanted, yielded, Act.put, go_sem] <;> exact fun h => by cases h)
                  · exact ⟨rfl, rfl⟩
                case refine_13 =>
                  intro D sp w' hD hW hdp hbx'
                  (with_reducible refine asked_not ?_ ?_)
                  · (simp [Region.wanted, yielded, Act.put, go_sem] <;> exact fun h => by cases h)
                  · exact ⟨rfl, rfl⟩
                case refine_14 =>
                  intro D sp w' hD hW hdp hbx'
                  (with_reducible refine asked_not ?_ ?_)
                  · (simp [Region.wanted, yielded, Act.put, go_sem] <;> exact fun h => by cases h)
                  · exact ⟨rfl, rfl⟩
                case refine_15 =>
                  intro D sp w' hD hW hdp hbx'
                  (with_reducible refine asked_not ?_ ?_)
                  · (simp [Region.wanted, yielded, Act.put, go_sem] <;> exact fun h => by cases h)
                  · exact ⟨rfl, rfl⟩
                case refine_16 =>
                  intro D sp w' hD hW hdp hbx'
                  (with_reducible refine asked_not ?_ ?_)
                  · (simp [Region.wanted, yielded, Act.put, go_sem] <;> exact fun h => by cases h)
                  · exact ⟨rfl, rfl⟩
                case refine_17 =>
                  intro D sp w' hD hW hdp hbx'
                  (with_reducible refine asked_not ?_ ?_)
                  · (simp [Region.wanted, yielded, Act.put, go_sem] <;> exact fun h => by cases h)
                  · exact ⟨rfl, rfl⟩
                case refine_18 =>
                  intro D sp w' hD hW hdp hbx'
                  (with_reducible refine asked_not ?_ ?_)
                  · (simp [Region.wanted, yielded, Act.put, go_sem] <;> exact fun h => by cases h)
                  · exact ⟨rfl, rfl⟩
                case refine_19 =>
                  intro D sp w' hD hW hdp hbx'
                  (with_reducible refine asked_not ?_ ?_)
                  · (simp [Region.wanted, yielded, Act.put, go_sem] <;> exact fun h => by cases h)
                  · exact ⟨rfl, rfl⟩
                case refine_20 =>
                  intro D sp w' hD hW hdp hbx'
                  (with_reducible refine asked_not ?_ ?_)
                  · (simp [Region.wanted, yielded, Act.put, go_sem] <;> exact fun h => by cases h)
                  · exact ⟨rfl, rfl⟩
                case refine_21 =>
                  intro D sp w' hD hW hdp hbx'
                  (with_reducible refine asked_not ?_ ?_)
                  · (simp [Region.wanted, yielded, Act.put, go_sem] <;> exact fun h => by cases h)
                  · exact ⟨rfl, rfl⟩
                case refine_22 =>
                  intro D sp w' hD hW hdp hbx'
                  (with_reducible refine asked_not ?_ ?_)
                  · (simp [Region.wanted, yielded, Act.put, go_sem] <;> exact fun h => by cases h)
                  · exact ⟨rfl, rfl⟩
                case refine_23 =>
                  intro D sp w' hD hW hdp hbx'
                  (with_reducible refine asked_value (w1 := w') (v := .bool false) ?_ ?_ ?_)
                  · first | (simp only [Region.wanted]; done) | simp [Region.wanted, yielded, Act.put, go_sem]
                  · simp [execOp, Act.eval, Act.put, go_sem]
                  · exact ⟨rfl, rfl⟩
              · intro sp w11 hsp hbx'
                have B11 : Hold _ := ⟨bstep B10.out hbx'⟩
                have HAD : Hold _ := ⟨cadd_fit (HR8.out.below hbx') (HP8.out.below hbx') (HQ8.out.below hbx') (by decide) (by decide) (by omega) (by omega)⟩
                clear hsp hbx' HR8 HP8 HQ8 hn hn0 hm0 hm hm1
                simp only [frameOf]
                go_simp
                obtain ⟨L, hL⟩ : ∃ L, max n nl = L := ⟨_, rfl⟩
                rw [hL] at HAD
                have HCASE : Hold (((nl : Int) = L ∧ (n : Int) < L ∧ (n : Int) ≤ L ∧ ¬ (L : Int) < n ∧ ¬ (L : Int) ≤ n ∧ max (n : Int) (L : Int) = L) ∨ ((n : Int) = L ∧ (nl : Int) ≤ L ∧ ¬ (L : Int) < nl ∧ max (L : Int) (nl : Int) = L ∧ ((L : Int) ≤ nl ↔ nl = L) ∧ ((nl : Int) < L ↔ nl < L))) := ⟨by omega⟩
                clear hL hn8' hm8'
                go_wp2_with fail
                refine HAD.out.mono ?_
                rintro en w12 ⟨rfl, _, b12⟩
                have B12 : Hold _ := ⟨bstep B11.out b12⟩
                clear b12
                rcases HCASE.out with ⟨hx1, hx2, hx3, hx4, hx5, hx6⟩ | ⟨hx1, hx2, hx3, hx4, hx5, hx6⟩
                all_goals
                  go_wp2
                  go_ret
                  exact ⟨rfl, B12.out⟩

          · have hn0 : ¬ (0 : Int) < n := by omega
            have hm0 : True := trivial
            go_wp2
            have hn1 : n = 0 := by omega
            refine wp_region_duties (by kernel_rfl) (by kernel_rfl)
              [some (.slice p4 n c4), some (.int .i64 n), some (.bool false), some (.bool false), some (undef), some (undef), some (undef), some (.bool false), some (.bool false), some (undef), some (undef), some (undef), some (undef), some (undef), some (undef), some (undef), some (undef), some (undef), some (undef), some (undef), some (undef), some (undef), some (.bool false)]
              [false, false, false, false, false, false, false, false, false, false, false, false, false, false, false, false, false, false, false, false, false, false, false] rfl
              (fun w1 w2 => Below w1.heap.size w1 w2)
              (fun _ w' => Below w10.heap.size w10 w')
              (fun i v w' => match i with
                | _ => True)
              ?_ (Below.refl _ _).drew ?_ ?_
            · intro i v w1 w2 hf hb
              split at hf
              · trivial
            · simp only [Duties, Nat.reduceAdd]
              refine ⟨?_, ?_, ?_, ?_, ?_, ?_, ?_, ?_, ?_, ?_, ?_, ?_, ?_, ?_, ?_, ?_, ?_, ?_, ?_, ?_, ?_, ?_, ?_, trivial⟩
              case refine_1 =>
                intro D sp w' hD hW hdp hbx'
                (with_reducible refine asked_value (w1 := w') (v := .slice p4 n c4) ?_ ?_ ?_)
                · first | (simp only [Region.wanted]; done) | simp [Region.wanted, yielded, Act.put, go_sem]
                · simp [execOp, Act.eval, go_sem]
                · exact ⟨rfl, rfl⟩
              case refine_2 =>
                intro D sp w' hD hW hdp hbx'
                (with_reducible refine asked_value (w1 := w') (v := .int .i64 n) ?_ ?_ ?_)
                · first | (simp only [Region.wanted]; done) | simp [Region.wanted, yielded, Act.put, go_sem]
                · simp [Act.eval, Act.put, go_sem]
                · exact ⟨rfl, rfl⟩
              case refine_3 =>
                intro D sp w' hD hW hdp hbx'
                (with_reducible refine asked_value (w1 := w') (v := .bool false) ?_ ?_ ?_)
                · first | (simp only [Region.wanted]; done) | simp [Region.wanted, yielded, Act.put, go_sem]
                · simp [execOp, Act.eval, Act.put, go_sem, hn1]
                · exact ⟨rfl, rfl⟩
              case refine_4 =>
                intro D sp w' hD hW hdp hbx'
                (with_reducible refine asked_value (w1 := w') (v := .bool false) ?_ ?_ ?_)
                · first | (simp only [Region.wanted]; done) | simp [Region.wanted, yielded, Act.put, go_sem]
                · simp [execOp, Act.eval, Act.put, go_sem]
                · exact ⟨rfl, rfl⟩
              case refine_5 =>
                intro D sp w' hD hW hdp hbx'
                (with_reducible refine asked_not ?_ ?_)
                · (simp [Region.wanted, yielded, Act.put, go_sem] <;> exact fun h => by cases h)
                · exact ⟨rfl, rfl⟩
              case refine_6 =>
                intro D sp w' hD hW hdp hbx'
                (with_reducible refine asked_not ?_ ?_)
                · (simp [Region.wanted, yielded, Act.put, go_sem] <;> exact fun h => by cases h)
                · exact ⟨rfl, rfl⟩
              case refine_7 =>
                intro D sp w' hD hW hdp hbx'
                (with_reducible refine asked_not ?_ ?_)
                · (simp [Region.wanted, yielded, Act.put, go_sem] <;> exact fun h => by cases h)
                · exact ⟨rfl, rfl⟩
              case refine_8 =>
                intro D sp w' hD hW hdp hbx'
                (with_reducible refine asked_value (w1 := w') (v := .bool false) ?_ ?_ ?_)
                · first | (simp only [Region.wanted]; done) | simp [Region.wanted, yielded, Act.put, go_sem]
                · simp [execOp, Act.eval, Act.put, go_sem]
                · exact ⟨rfl, rfl⟩
              case refine_9 =>
                intro D sp w' hD hW hdp hbx'
                (with_reducible refine asked_value (w1 := w') (v := .bool false) ?_ ?_ ?_)
                · first | (simp only [Region.wanted]; done) | simp [Region.wanted, yielded, Act.put, go_sem]
                · simp [execOp, Act.eval, Act.put, go_sem]
                · exact ⟨rfl, rfl⟩
              case refine_10 =>
                intro D sp w' hD hW hdp hbx'
                (with_reducible refine asked_not ?_ ?_)
                · (simp [Region.wanted, yielded, Act.put, go_sem] <;> exact fun h => by cases h)
                · exact ⟨rfl, rfl⟩
              case refine_11 =>
                intro D sp w' hD hW hdp hbx'
                (with_reducible refine asked_not ?_ ?_)
                · (simp [Region.wanted, yielded, Act.put, go_sem] <;> exact fun h => by cases h)
                · exact ⟨rfl, rfl⟩
              case refine_12 =>
                intro D sp w' hD hW hdp hbx'
                (with_reducible refine asked_not ?_ ?_)
                · (simp [Region.wanted, yielded, Act.put, go_sem] <;> exact fun h => by cases h)
                · exact ⟨rfl, rfl⟩
              case refine_13 =>
                intro D sp w' hD hW hdp hbx'
                (with_reducible refine asked_not ?_ ?_)
                · (simp [Region.wanted, yielded, Act.put, go_sem] <;> exact fun h => by cases h)
                · exact ⟨rfl, rfl⟩
              case refine_14 =>
                intro D sp w' hD hW hdp hbx'
                (with_reducible refine asked_not ?_ ?_)
                · (simp [Region.wanted, yielded, Act.put, go_sem] <;> exact fun h => by cases h)
                · exact ⟨rfl, rfl⟩
              case refine_15 =>
                intro D sp w' hD hW hdp hbx'
                (with_reducible refine asked_not ?_ ?_)
                · (simp [Region.wanted, yielded, Act.put, go_sem] <;> exact fun h => by cases h)
                · exact ⟨rfl, rfl⟩
              case refine_16 =>
                intro D sp w' hD hW hdp hbx'
                (with_reducible refine asked_not ?_ ?_)
                · (simp [Region.wanted, yielded, Act.put, go_sem] <;> exact fun h => by cases h)
                · exact ⟨rfl, rfl⟩
              case refine_17 =>
                intro D sp w' hD hW hdp hbx'
                (with_reducible refine asked_not ?_ ?_)
                · (simp [Region.wanted, yielded, Act.put, go_sem] <;> exact fun h => by cases h)
                · exact ⟨rfl, rfl⟩
              case refine_18 =>
                intro D sp w' hD hW hdp hbx'
                (with_reducible refine asked_not ?_ ?_)
                · (simp [Region.wanted, yielded, Act.put, go_sem] <;> exact fun h => by cases h)
                · exact ⟨rfl, rfl⟩
              case refine_19 =>
                intro D sp w' hD hW hdp hbx'
                (with_reducible refine asked_not ?_ ?_)
                · (simp [Region.wanted, yielded, Act.put, go_sem] <;> exact fun h => by cases h)
                · exact ⟨rfl, rfl⟩
              case refine_20 =>
                intro D sp w' hD hW hdp hbx'
                (with_reducible refine asked_not ?_ ?_)
                · (simp [Region.wanted, yielded, Act.put, go_sem] <;> exact fun h => by cases h)
                · exact ⟨rfl, rfl⟩
              case refine_21 =>
                intro D sp w' hD hW hdp hbx'
                (with_reducible refine asked_not ?_ ?_)
                · (simp [Region.wanted, yielded, Act.put, go_sem] <;> exact fun h => by cases h)
                · exact ⟨rfl, rfl⟩
              case refine_22 =>
                intro D sp w' hD hW hdp hbx'
                (with_reducible refine asked_not ?_ ?_)
                · (simp [Region.wanted, yielded, Act.put, go_sem] <;> exact fun h => by cases h)
                · exact ⟨rfl, rfl⟩
              case refine_23 =>
                intro D sp w' hD hW hdp hbx'
                (with_reducible refine asked_value (w1 := w') (v := .bool false) ?_ ?_ ?_)
                · first | (simp only [Region.wanted]; done) | simp [Region.wanted, yielded, Act.put, go_sem]
                · simp [execOp, Act.eval, Act.put, go_sem]
                · exact ⟨rfl, rfl⟩
            · intro sp w11 hsp hbx'
              have B11 : Hold _ := ⟨bstep B10.out hbx'⟩
              have HAD : Hold _ := ⟨cadd_fit (HR8.out.below hbx') (HP8.out.below hbx') (HQ8.out.below hbx') (by decide) (by decide) (by omega) (by omega)⟩
              clear hsp hbx' HR8 HP8 HQ8 hn hn0 hm0 hn1
              simp only [frameOf]
              go_simp
              obtain ⟨L, hL⟩ : ∃ L, max n nl = L := ⟨_, rfl⟩
              rw [hL] at HAD
              have HCASE : Hold (((nl : Int) = L ∧ (n : Int) < L ∧ (n : Int) ≤ L ∧ ¬ (L : Int) < n ∧ ¬ (L : Int) ≤ n ∧ max (n : Int) (L : Int) = L) ∨ ((n : Int) = L ∧ (nl : Int) ≤ L ∧ ¬ (L : Int) < nl ∧ max (L : Int) (nl : Int) = L ∧ ((L : Int) ≤ nl ↔ nl = L) ∧ ((nl : Int) < L ↔ nl < L))) := ⟨by omega⟩
              clear hL hn8' hm8'
              go_wp2_with fail
              refine HAD.out.mono ?_
              rintro en w12 ⟨rfl, _, b12⟩
              have B12 : Hold _ := ⟨bstep B11.out b12⟩
              clear b12
              rcases HCASE.out with ⟨hx1, hx2, hx3, hx4, hx5, hx6⟩ | ⟨hx1, hx2, hx3, hx4, hx5, hx6⟩
              all_goals
                go_wp2
                go_ret
                exact ⟨rfl, B12.out⟩

end Go.Proofs.YtdebccghjbfgdaaGreatDoor
