/- CurveSums, walked. -/
import Derived.Test.YtblaplcknhpjnaaGreatDoorCuN
import Derived.Test.YtblaplcknhpjnaaGreatDoorRing
/-! The chapter's example lives (law10's lives). -/
namespace Go.Proofs.YtblaplcknhpjnaaGreatDoor
open Go Go.RowKit Go.Proofs.YtblaplcknhpjnaaGreatDoor.Flow
set_option maxRecDepth 100000

theorem hor11 : horQ 101 2 [3, 2, 1] = 11 := by decide
set_option maxHeartbeats 4000000 in
set_option maxRecDepth 1000000 in
theorem lives10_calls (w : World) (hr : Tabs w) :
    Calls Tryz.prog 9 #[] w fun e w' => e = .returned (.bool true) ∧ Below w.heap.size w w' := by
  have HF : Hold _ := ⟨field_calls w 0 hr⟩
  clear hr
  go_enter Tryz.func9, Tryz.ntmps9
  go_wp2_with fail
  refine HF.out.mono ?_
  rintro en w1 ⟨r, rfl, hr, hb1⟩
  have hr' : Ring w1 r 101 33 := hr
  obtain ⟨W1, hW1⟩ : ∃ W, w1.alloc (.cells #[.int .u64 3, .int .u64 2, .int .u64 1] 23) = W := ⟨_, rfl⟩
  have hbw : Below w1.heap.size w1 W1 := by rw [← hW1]; exact (Below.refl _ _).alloc (Nat.le_refl _) _
  have hnew : W1.heap[w1.heap.size]? = some (.cells #[.int .u64 3, .int .u64 2, .int .u64 1] 23 (0, 0)) := by rw [← hW1]; exact heap_alloc_new w1 _
  have hrow : RowIn W1 .u64 (some ⟨w1.heap.size, 0, none⟩) 3 3 [3, 2, 1] := ⟨rfl, Nat.le_refl _, by decide, fun _ => ⟨rfl, Nat.le_refl _, by decide, .inr ⟨w1.heap.size, 0, rfl, (Array.getElem?_eq_some_iff.1 hnew).1, fun i x hx => by
    match i, hx with
    | 0, hx => simp at hx; subst hx; simp [World.cell?, hnew]
    | 1, hx => simp at hx; subst hx; simp [World.cell?, hnew]
    | 2, hx => simp at hx; subst hx; simp [World.cell?, hnew]
    | i + 3, hx => simp at hx⟩⟩⟩
  have HN : Hold _ := ⟨nums_calls W1 _ 3 3 [3, 2, 1] hrow (fun x hx => by simp at hx; unfold U64; omega) (by decide)⟩
  have HR1 : Hold _ := ⟨hr'.below hbw⟩
  have HB1 : Hold _ := ⟨bstep hb1 hbw⟩
  clear hr hr' hbw hnew hrow hb1 HF
  go_wp2_with fail
  refine HN.out.mono ?_
  rintro en w2 ⟨p, c, rfl, hp, hb2⟩
  have HR2 : Hold _ := ⟨HR1.out.below hb2⟩
  have HP2 : Hold _ := ⟨hp⟩
  have HB2 : Hold _ := ⟨bstep HB1.out hb2⟩
  clear hp hb2 HR1 HB1 HN hW1
  go_wp2_with fail
  refine (two_fit w2).mono ?_
  rintro en w3 ⟨x3, rfl, h3, b3⟩
  have HE : Hold _ := ⟨eval_fit (HR2.out.below b3) (HP2.out.below b3) h3 (by decide) (by decide) (by decide)⟩
  have HB3 : Hold _ := ⟨bstep HB2.out b3⟩
  clear h3 b3 HR2 HP2 HB2
  go_wp2_with fail
  refine HE.out.mono ?_
  rintro en w4 ⟨x4, rfl, h4, b4⟩
  rw [hor11] at h4
  have H4 : Hold _ := ⟨h4⟩
  have HB4 : Hold _ := ⟨bstep HB3.out b4⟩
  clear h4 b4 HE HB3
  go_wp2_with fail
  refine (newnat_fit (n := 11) w4 (by omega)).mono ?_
  rintro en w5 ⟨x5, rfl, h5, b5⟩
  have HC : Hold _ := ⟨cmp_fitK (H4.out.below b5) h5 (by decide) (by decide) (cmpI_zero.2 rfl)⟩
  have HB5 : Hold _ := ⟨bstep HB4.out b5⟩
  clear h5 b5 H4 HB4
  go_wp2_with fail
  refine HC.out.mono ?_
  rintro en w6 ⟨_, rfl, rfl, b6⟩
  have HB6 : Hold _ := ⟨bstep HB5.out b6⟩
  clear b6 HC HB5
  go_wp2
  go_ret
  exact ⟨rfl, HB6.out⟩

end Go.Proofs.YtblaplcknhpjnaaGreatDoor

namespace Go.Proofs.YtblaplcknhpjnaaGreatDoor
open Go Go.RowKit Go.Proofs.YtblaplcknhpjnaaGreatDoor.Flow
set_option maxRecDepth 100000

set_option maxHeartbeats 8000000 in
set_option maxRecDepth 1000000 in
theorem csums_calls (w : World) (hr : Tabs w) (A : Int) (p : Option Addr) (n c : Nat) (xs : List Nat) (h : RowIn w .u64 p n c xs) (h64 : ∀ x ∈ xs, U64 x) (X : Nat) (hX : U64 X) :
    Calls Tryz.prog 8 #[.int .i64 A, .slice p n c, .int .u64 (X : Nat)] w fun e w' => e = .returned (.bool true) ∧ Below w.heap.size w w' := by
  have HLI : Hold _ := ⟨lives10_calls⟩
  have HFD : Hold _ := ⟨field_calls⟩
  have HT : Hold _ := ⟨hr⟩
  have HROW : Hold _ := ⟨h⟩
  have H64 : Hold _ := ⟨h64⟩
  have HX : Hold (X < 18446744073709551616) := ⟨hX⟩
  have HLN : Hold _ := ⟨h.len⟩
  have hnc := h.cap
  have hcm := h.max
  obtain ⟨i, hi⟩ : ∃ i, ((IntKind.u64.wrap A) % 3).toNat = i := ⟨_, rfl⟩
  have HI3 : Hold (i < 3) := ⟨by rw [← hi]; exact idx_lt A⟩
  have HI : Hold _ := ⟨hi⟩
  clear h h64 hr hX hi
  go_enter Tryz.func8, Tryz.ntmps8
  go_wp2_with fail
  refine (HLI.out w HT.out).mono ?_
  rintro en w1 ⟨rfl, b1⟩
  have B1 : Hold _ := ⟨b1⟩
  clear b1
  by_cases hn12 : 12 < n
  · have hn12' : (12 : Int) < n := by omega
    go_wp2_with fail
    refine (HLI.out w1 (HT.out.below B1.out HT.out.size)).mono ?_
    rintro en w2 ⟨rfl, b2⟩
    have B2 : Hold _ := ⟨bstep B1.out b2⟩
    clear b2
    go_wp2
    go_ret
    exact ⟨rfl, B2.out⟩
  have hn12' : ¬ (12 : Int) < n := by omega
  go_wp2_with fail
  refine (HFD.out w1 A (HT.out.below B1.out HT.out.size)).mono ?_
  rintro en w2 ⟨r, rfl, hr2, b2⟩
  rw [HI.out] at hr2
  obtain ⟨q, hq⟩ : ∃ q, gQ i = q := ⟨_, rfl⟩
  have HQ : Hold (Prime q) := ⟨by rw [← hq]; exact gQ_prime i HI3.out⟩
  rw [hq] at hr2
  have HR2 : Hold _ := ⟨hr2⟩
  have B2 : Hold _ := ⟨bstep B1.out b2⟩
  clear hr2 b2 hq
  go_wp2_with fail
  refine (nums_calls w2 p n c xs (HROW.out.below B2.out) H64.out (by omega)).mono ?_
  rintro en w3 ⟨p3, c3, rfl, hp3, b3⟩
  have HP3 : Hold _ := ⟨hp3⟩
  have HR3 : Hold _ := ⟨HR2.out.below b3⟩
  have B3 : Hold _ := ⟨bstep B2.out b3⟩
  clear hp3 b3
  go_wp2_with fail
  refine (newnat_fit (n := X) w3 HX.out).mono ?_
  rintro en w4 ⟨x, rfl, hx4, b4⟩
  have HW : Hold _ := ⟨weights_fit HQ.out (HR3.out.below b4) (HP3.out.below b4) hx4 (by decide) (by decide) (by omega)⟩
  have HR4 : Hold _ := ⟨HR3.out.below b4⟩
  have B4 : Hold _ := ⟨bstep B3.out b4⟩
  clear hx4 b4
  go_wp2_with fail
  refine HW.out.mono ?_
  rintro en w5 ⟨g1, g2, b5⟩
  have B5 : Hold _ := ⟨bstep B4.out b5⟩
  have HR5 : Hold _ := ⟨HR4.out.below b5⟩
  clear b5 HW
  by_cases hn0 : n = 0
  · have hf : faultN q n n xs = 10 := by rw [faultN, if_pos hn0]
    rw [hf] at g1 g2
    obtain rfl := g1 (by decide)
    subst hn0
    clear g1 g2 hf
    go_wp2
    go_ret
    exact ⟨rfl, B5.out⟩
  by_cases hd : (xs.map fun x => x % q).Nodup
  · have hf : faultN q n n xs = 0 := by rw [faultN, if_neg hn0, if_neg (fun h => h rfl), if_pos hd]
    rw [hf] at g1 g2
    obtain ⟨g, rfl, hp5⟩ := g2 rfl
    have HP5 : Hold _ := ⟨hp5⟩
    have HU : Hold (Unlike q (ints xs)) := ⟨(unlike_iff xs).2 hd⟩
    have HN1 : Hold (1 ≤ n) := ⟨by omega⟩
    obtain ⟨W6, hW6⟩ : ∃ W, w5.alloc (.cells #[.slice none 0 0] 36) = W := ⟨_, rfl⟩
    have hb6 : Below w5.heap.size w5 W6 := by rw [← hW6]; exact (Below.refl _ _).alloc (Nat.le_refl _) _
    have hm6 : NatBox W6 w5.heap.size (.slice none 0 0) := by rw [← hW6]; exact NatBox.made _ _
    obtain ⟨b10, hb10⟩ : ∃ b, w5.heap.size = b := ⟨_, rfl⟩
    rw [hb10] at hm6
    obtain ⟨L, hL⟩ : ∃ L, (xs.map fun _ => 1).zip (weis q X [] xs) = L := ⟨_, rfl⟩
    have HLL : Hold _ := ⟨hL⟩
    have c6 := hm6.cell
    have f6 := hm6.free
    have HS6 : Hold (ProdBox (W6.setCell ⟨b10, 0, none⟩ (.slice none 0 0)) b10 (wsum (fun a b => (a + b) % q) (fun a b => a * b % q) 0 (L.take 0)) ∧ Below w5.heap.size w5 (W6.setCell ⟨b10, 0, none⟩ (.slice none 0 0))) := ⟨⟨none, 0, 0, hm6.set _, NatAt.nil _⟩, hb6.setCell (by rw [hb10]; exact Nat.le_refl _) _⟩
    have HONE : Hold (wsum (fun a b => (a + b) % q) (fun a b => a * b % q) 0 L = 1) := ⟨by
      rw [← hL, wsum_join]
      exact join_ones HQ.out HU.out (by rw [← HLN.out]; omega) X⟩
    have HLE : Hold (L.length = n) := ⟨by rw [← hL, List.length_zip, weis_length, List.length_map, Nat.min_self]; exact HLN.out.symm⟩
    have HB10 : Hold _ := ⟨hb10⟩
    clear g1 g2 hf hd hn0 hp5 hb6 hm6 hL
    go_wp2
    clear hW6 hb10 c6 f6
    go_loopw [12, 50] (fun _ iv wr => ∃ k : Nat, k ≤ n ∧ iv = .int .i64 k ∧ Hold (ProdBox wr b10 (wsum (fun a b => (a + b) % q) (fun a b => a * b % q) 0 (L.take k)) ∧ Below w5.heap.size w5 wr) ∧ Hold (wsum (fun a b => (a + b) % q) (fun a b => a * b % q) 0 (L.take k) < B32 33)) (fun _ iv _ => n - (intOf iv).toNat)
    case atStart => exact ⟨0, by omega, rfl, HS6, ⟨B32_pos 33⟩⟩
    case round =>
      obtain ⟨k, hk, rfl, HS, HSL⟩ := hrel
      by_cases hkn : k < n
      · obtain ⟨Y, hYk⟩ : ∃ Y, (weis q X [] xs)[k]? = some Y := ⟨(weis q X [] xs)[k]'(by rw [weis_length, ← HLN.out]; exact hkn), List.getElem?_eq_getElem _⟩
        have hZk : (xs.map fun _ => 1)[k]? = some 1 := by
          rw [List.getElem?_map, List.getElem?_eq_getElem (show k < xs.length by rw [← HLN.out]; exact hkn)]; rfl
        have hLk : L[k]? = some (1, Y) := by rw [← HLL.out]; exact zip_get hZk hYk
        obtain ⟨b2, off2, e2, hb2, hc2⟩ := HP5.out.at_ (by omega)
        simp only [Option.some.injEq, Addr.mk.injEq, and_true] at e2
        obtain ⟨rfl, rfl⟩ := e2
        obtain ⟨qy, my, dy, hy1, hy2, hy3⟩ := hc2 k Y hYk
        rw [Nat.zero_add] at hy1
        have hcy : wr.cell? ⟨g, k, none⟩ = some (.slice qy my dy) := (HS.out.2.cell (p := ⟨g, k, none⟩) hb2).trans hy1
        have hbw : Below wr.heap.size wr (wr.alloc (.cells #[.slice qy my dy] 36)) := (Below.refl _ _).alloc (Nat.le_refl _) _
        have hbo := NatBox.made wr (.slice qy my dy)
        obtain ⟨wb, hwb⟩ : ∃ wb, wr.alloc (.cells #[.slice qy my dy] 36) = wb := ⟨_, rfl⟩
        rw [hwb] at hbw hbo
        have c12 := hbo.cell
        obtain ⟨po, no, co, hob, hon⟩ := HS.out.1
        have hob2 := hob.below hbw hob.lt
        have c10 := hob2.cell
        have HBb : Hold (Below w5.heap.size w5 wb) := ⟨bstep HS.out.2 hbw⟩
        obtain ⟨OO, hOO⟩ : ∃ N, wsum (fun a b => (a + b) % q) (fun a b => a * b % q) 0 (L.take k) = N := ⟨_, rfl⟩
        rw [hOO] at hon
        have HFO : Hold (Fit 33 OO (.agg #[.slice po no co]) wb) := ⟨(Fit.of hon (by rw [← hOO]; exact HSL.out)).below hbw⟩
        have HFY : Hold (Fit 33 Y (.agg #[.slice qy my dy]) wb) := ⟨(Fit.of hy2 hy3).below HBb.out⟩
        have HSN : Hold (wsum (fun a b => (a + b) % q) (fun a b => a * b % q) 0 (L.take (k + 1)) = (OO + Y) % q) := ⟨by
          rw [snoc_take hLk, wsum_snoc, hOO]
          show (OO + 1 * Y % q) % q = (OO + Y) % q
          rw [Nat.one_mul, Nat.add_mod_mod]⟩
        have HOB : Hold _ := ⟨hob2⟩
        have hkn' : (k : Int) < n := by omega
        have hnk : ¬ n ≤ k := by omega
        clear hc2 hYk hZk hLk hy1 hy2 hbw hbo hob hob2 hon hOO hb2
        go_wp2_with fail
        refine (rngadd_fit (HR5.out.below HBb.out) HFO.out HFY.out (by decide) (by decide)).mono ?_
        rintro en w8 ⟨_, rfl, ⟨pz, nz, cz, rfl, z1, z2⟩, b8⟩
        have hx8 := HOB.out.below b8 HOB.out.lt
        have k10 := hx8.cell
        have f10 := hx8.free
        have HS9 : Hold (ProdBox (w8.setCell ⟨b10, 0, none⟩ (.slice pz nz cz)) b10 (wsum (fun a b => (a + b) % q) (fun a b => a * b % q) 0 (L.take (k + 1))) ∧ Below w5.heap.size w5 (w8.setCell ⟨b10, 0, none⟩ (.slice pz nz cz))) := ⟨⟨pz, nz, cz, hx8.set _, by rw [HSN.out]; exact z1.store hx8 _⟩, (bstep HBb.out b8).setCell (by rw [HB10.out]; exact Nat.le_refl _) _⟩
        have HSL2 : Hold (wsum (fun a b => (a + b) % q) (fun a b => a * b % q) 0 (L.take (k + 1)) < B32 33) := ⟨by rw [HSN.out]; exact z2⟩
        clear z1 z2 hx8 b8 c10 c12 hcy
        go_wp2
        go_roundw
        case rel => exact ⟨k + 1, by omega, by go_num, HS9, HSL2⟩
        case measure => simp [intOf]; omega
      · obtain rfl : k = n := by omega
        have hkn' : ¬ (k : Int) < k := by omega
        have htk : L.take k = L := List.take_of_length_le (by rw [HLE.out]; exact Nat.le_refl _)
        rw [htk, HONE.out] at HS
        obtain ⟨pz, nz, cz, hz1, hz2⟩ := HS.out.1
        have HZB : Hold _ := ⟨hz1⟩
        have HZF : Hold (Fit 33 1 (.agg #[.slice pz nz cz]) wr) := ⟨Fit.of hz2 (by decide)⟩
        have HBR : Hold _ := ⟨bstep B5.out HS.out.2⟩
        clear htk hz1 hz2
        go_wp2
        refine wp_region_duties (by kernel_rfl) (by kernel_rfl)
          [some (.agg #[.slice pz nz cz]), none, none, some (.bool true), some (.bool true)]
          [false, true, true, false, false] rfl
          (fun w1 w2 => Below w1.heap.size w1 w2)
          (fun _ w' => Below wr.heap.size wr w')
          (fun i v w' => match i with
            | 1 => Fit 1 1 v w'
            | 2 => v = .int .i64 0
            | _ => True)
          ?_ (Below.refl _ _).drew ?_ ?_
        · intro i v w1 w2 hf hb
          split at hf
          · exact hf.below hb
          · exact hf
          · trivial
        · simp only [Duties, Nat.reduceAdd]
          refine ⟨?_, ?_, ?_, ?_, ?_, trivial⟩
          case refine_1 =>
            intro D sp w' hD hW hdp hbx'
            have c0 := (HZB.out.below hbx' HZB.out.lt).cell
            (with_reducible refine asked_value (w1 := w') (v := .agg #[.slice pz nz cz]) ?_ ?_ ?_)
            · first | (simp only [Region.wanted]; done) | simp [Region.wanted, yielded, Act.put, go_sem]
            · simp [execOp, Act.eval, go_sem, c0]
            · exact ⟨rfl, rfl⟩
          case refine_2 =>
            intro D sp w' hD hW hdp hbx'
            (with_reducible refine asked_call (w1 := w') (f := 15) (args := #[.int .u64 1]) ?_ ?_ ?_)
            · first | (simp only [Region.wanted]; done) | simp [Region.wanted, yielded, Act.put, go_sem]
            · simp [Act.eval, Act.put, go_sem]
            · refine (one_fit w').mono ?_
              rintro en w9 ⟨u, rfl, hu, hb⟩
              exact ⟨u, rfl, hb, hu, bstep hbx' hb⟩
          case refine_3 =>
            intro D sp w' hD hW hdp hbx'
            have k1 : Fit 1 1 (sp 1) w' := (hdp 1 (List.mem_of_elem_eq_true (by kernel_rfl))).2
            (with_reducible refine asked_call (w1 := w') (f := 30) (args := #[.agg #[.slice pz nz cz], sp 1]) ?_ ?_ ?_)
            · first | (simp only [Region.wanted]; done) | simp [Region.wanted, yielded, Act.put, go_sem]
            · simp [Act.eval, Act.put, go_sem]
            · refine (cmp_fitK (HZF.out.below hbx') k1 (by decide) (by decide) (cmpI_zero.2 rfl)).mono ?_
              rintro en w9 ⟨_, rfl, rfl, hb⟩
              exact ⟨_, rfl, hb, rfl, bstep hbx' hb⟩
          case refine_4 =>
            intro D sp w' hD hW hdp hbx'
            have k2 : (sp 2) = .int .i64 0 := (hdp 2 (List.mem_of_elem_eq_true (by kernel_rfl))).2
            (with_reducible refine asked_value (w1 := w') (v := .bool true) ?_ ?_ ?_)
            · first | (simp only [Region.wanted]; done) | simp [Region.wanted, yielded, Act.put, go_sem, k2]
            · simp [execOp, Act.eval, Act.put, go_sem, k2]
            · exact ⟨rfl, rfl⟩
          case refine_5 =>
            intro D sp w' hD hW hdp hbx'
            (with_reducible refine asked_value (w1 := w') (v := .bool true) ?_ ?_ ?_)
            · first | (simp only [Region.wanted]; done) | simp [Region.wanted, yielded, Act.put, go_sem]
            · simp [execOp, Act.eval, Act.put, go_sem]
            · exact ⟨rfl, rfl⟩
        · intro sp w9 hsp hbx'
          have HB9 : Hold _ := ⟨bstep HBR.out hbx'⟩
          clear hsp hbx'
          simp only [frameOf, Nat.reduceAdd]
          generalize sp 1 = y1 at *
          generalize sp 2 = y2 at *
          go_simp
          go_wp2
          go_ret
          exact ⟨rfl, HB9.out⟩
  · have hf : faultN q n n xs = 11 := by rw [faultN, if_neg hn0, if_neg (fun h => h rfl), if_neg hd]
    rw [hf] at g1 g2
    obtain rfl := g1 (by decide)
    clear g1 g2 hf hd hn0
    go_wp2
    go_ret
    exact ⟨rfl, B5.out⟩

end Go.Proofs.YtblaplcknhpjnaaGreatDoor
