/- SlabCounts, whole. -/
import Derived.Test.YtpodoleopebioaaSlN
namespace Go.Proofs.Ytpodoleopebioaa
open Go Go.RowKit Go.Maps Go.Proofs.Ytpodoleopebioaa.Flow
set_option maxRecDepth 100000

theorem plain_at (w : World) {z : Int} {x : Nat} (hz : z = (x : Nat)) (hx : x < 256) : Calls Try.prog 13 #[.int .u8 z] w fun e w' => ∃ u, e = .returned u ∧ PlainV x u w' ∧ Below w.heap.size w w' := by
  subst hz; exact plain_calls w hx

set_option maxHeartbeats 4000000 in
set_option maxRecDepth 1000000 in
theorem scounts_calls (w : World) (s t : Int) : Calls Try.prog 5 #[.int .i64 s, .int .i64 t] w fun e w' => e = .returned (.bool true) ∧ Below w.heap.size w w' := by
  obtain ⟨p, hp, hp80⟩ := rest_is3 s 80 (by omega)
  obtain ⟨t0, ht, ht40⟩ := rest_is3 t 40 (by omega)
  have hu1 := wrap_pos s
  have hu2 := wrap_pos t
  replace hp : IntKind.u64.wrap s % 80 = (p : Int) := hp
  replace ht : IntKind.u64.wrap t % 40 = (t0 : Int) := ht
  obtain ⟨T, hT⟩ : ∃ T : Nat, 1 + t0 = T := ⟨_, rfl⟩
  have hT1 : 1 + (t0 : Int) = (T : Int) := by omega
  have hTw : wrap64 (T : Int) = T := by unfold wrap64; omega
  have HT : Hold (1 ≤ T ∧ T ≤ 40) := ⟨by omega⟩
  have HP : Hold (p < 80) := ⟨hp80⟩
  clear hT ht40
  go_enter Try.func5, Try.ntmps5
  go_wp2_with fail
  refine (new_calls w 64).mono ?_
  rintro e w1 (⟨h9, _⟩ | ⟨_, _, b, g, m, rfl, hb, hg, hm, hs, hbl⟩)
  · exact absurd (by omega) h9
  have HN : Hold (w.heap.size ≤ b ∧ w.heap.size ≤ g ∧ w.heap.size ≤ m) := ⟨hb, hg, hm⟩
  have HB1 : Hold _ := ⟨hbl⟩
  have HS1 : Hold (SlabAt w1 b g m (SM.new 64)) := ⟨hs⟩
  clear hb hg hm hs hbl
  go_wp2_with fail
  refine (lives15_calls w1).mono ?_
  rintro e w2 ⟨rfl, hb2⟩
  have HS2 : Hold (SlabAt w2 b g m (SM.new 64)) := ⟨HS1.out.later hb2⟩
  have HB2 : Hold (Below w.heap.size w w2) := ⟨bstepS HB1.out hb2⟩
  clear hb2
  go_wp2_with fail
  refine (supply_calls HS2.out (k := (p : Int)) (by omega)).mono ?_
  rintro e w3 ⟨rfl, hs, ho⟩
  have HS3 : Hold (SlabAt w3 b g m (cst p 0)) := ⟨by rw [← cst_zero]; exact hs⟩
  have HB3 : Hold (Below w.heap.size w w3) := ⟨HB2.out.trans (ho.below HB2.out.size HN.out.1 HN.out.2.1 HN.out.2.2)⟩
  clear hs ho
  clear hp ht hu1 hu2 hT1 hTw
  go_wp2
  go_loopw [6, 33] (fun _ iv wr => ∃ k : Nat, k ≤ T ∧ iv = .int .i64 k ∧ Hold (SlabAt wr b g m (cst p k)) ∧ Hold (Below w.heap.size w wr)) (fun _ iv _ => T - (intOf iv).toNat)
  case atStart => exact ⟨0, by omega, rfl, HS3, HB3⟩
  case round =>
    obtain ⟨k, hk, rfl, HSk, HBk⟩ := hrel
    by_cases hkn : k < T
    · have hkn' : (k : Int) < T := by omega
      have hk40 : (k : Int) < 40 := by have := HT.out; omega
      have hk1 : wrap64 ((k : Int) + 1) = ((k + 1 : Nat) : Int) := by unfold wrap64; omega
      have hk8 : IntKind.u8.wrap (((k + 1 : Nat) : Int)) = ((k + 1 : Nat) : Int) := by rw [IntKind.wrap_u8]; omega
      by_cases hkp : k < p
      · have hkp' : (k : Int) < p := by omega
        have HI : Hold _ := ⟨cst_ink (p := p) (i := k) (by omega) hkp (by omega)⟩
        go_wp2_with fail
        refine (plain_at wr (z := (k : Int) + 1) (x := k + 1) (by omega) (by omega)).mono ?_
        rintro e w4 ⟨_, rfl, ⟨q, rfl, hq⟩, hb4⟩
        have HS4 : Hold (SlabAt w4 b g m (cst p k)) := ⟨HSk.out.later hb4⟩
        have HB4 : Hold (Below w.heap.size w w4) := ⟨bstepS HBk.out hb4⟩
        have HNE : Hold (∀ a, some (⟨q, 0, none⟩ : Addr) = some a → a.block ≠ b ∧ a.block ≠ g ∧ a.block ≠ m) := ⟨fun a e => by cases e; exact fresh_ne hq HS4.out⟩
        have HQ : Hold _ := ⟨hq⟩
        clear hq hb4
        go_wp2_with fail
        refine (ink_calls HS4.out (k : Nat) (row_in (blk_row64 HQ.out (plainN_len (k + 1)))) (plainN_8 (by omega)) HNE.out).mono ?_
        rintro e w5 ⟨rfl, hs, ho⟩
        rw [HI.out] at hs
        rw [HI.out]
        have HS5 : Hold (SlabAt w5 b g m (cst p (k + 1))) := ⟨hs⟩
        have HB5 : Hold (Below w.heap.size w w5) := ⟨HB4.out.trans (ho.below HB4.out.size HN.out.1 HN.out.2.1 HN.out.2.2)⟩
        clear hs ho hk1 hk8
        go_wp2
        go_roundw
        case rel => exact ⟨k + 1, by omega, by go_num, HS5, HB5⟩
        case measure => simp [intOf]; omega
      · have hkp' : ¬ (k : Int) < p := by omega
        have HI : Hold _ := ⟨cst_out (p := p) (i := k) (by omega) (plainN (k + 1))⟩
        go_wp2_with fail
        refine (plain_at wr (z := (k : Int) + 1) (x := k + 1) (by omega) (by omega)).mono ?_
        rintro e w4 ⟨_, rfl, ⟨q, rfl, hq⟩, hb4⟩
        have HS4 : Hold (SlabAt w4 b g m (cst p k)) := ⟨HSk.out.later hb4⟩
        have HB4 : Hold (Below w.heap.size w w4) := ⟨bstepS HBk.out hb4⟩
        have HNE : Hold (∀ a, some (⟨q, 0, none⟩ : Addr) = some a → a.block ≠ b ∧ a.block ≠ g ∧ a.block ≠ m) := ⟨fun a e => by cases e; exact fresh_ne hq HS4.out⟩
        have HQ : Hold _ := ⟨hq⟩
        clear hq hb4
        go_wp2_with fail
        refine (ink_calls HS4.out (k : Nat) (row_in (blk_row64 HQ.out (plainN_len (k + 1)))) (plainN_8 (by omega)) HNE.out).mono ?_
        rintro e w5 ⟨rfl, hs, ho⟩
        rw [HI.out] at hs
        rw [HI.out]
        have HS5 : Hold (SlabAt w5 b g m (cst p (k + 1))) := ⟨hs⟩
        have HB5 : Hold (Below w.heap.size w w5) := ⟨HB4.out.trans (ho.below HB4.out.size HN.out.1 HN.out.2.1 HN.out.2.2)⟩
        clear hs ho hk1 hk8
        go_wp2
        go_roundw
        case rel => exact ⟨k + 1, by omega, by go_num, HS5, HB5⟩
        case measure => simp [intOf]; omega
    · obtain rfl : k = T := by omega
      have hkn' : ¬ (k : Int) < k := by omega
      have HX : Hold _ := ⟨cst_burn (p := p) (t := k) (by have := HT.out; omega) HT.out.1 (by have := HP.out; omega)⟩
      have HBU : Hold _ := ⟨burn_calls HSk.out⟩
      clear hkn hk
      by_cases hpt : p ≤ k
      · have h4 : ¬ (k : Int) < p := by omega
        have hB0 : cBurnt p k = 0 := by unfold cBurnt; omega
        have HE : Hold ((cst p k).burn.1 = 12) := ⟨by rw [HX.out.1, if_neg (by rw [hB0]; omega)]⟩
        have HM : Hold ((cst p k).burn.2.made = (p : Int)) := ⟨by rw [HX.out.2.1, hB0]; omega⟩
        have HBE : Hold _ := ⟨hB0⟩
        have hk := HT.out
        have hBI : min (k : Int) (max 0 ((p : Int) - k)) = 0 := by omega
        have h1 : wrap64 ((p : Int) - k) = p - k := by have := HP.out; unfold wrap64; omega
        have h7 : wrap64 ((k : Int) + 0) = (k : Int) + 0 := by have := HP.out; unfold wrap64; omega
        have h8 : min (p : Int) ((k : Int) + 0) = (p : Int) := by omega

        clear hB0
        go_wp2_with fail
        refine HBU.out.mono ?_
        rintro e w6 ⟨rfl, hs, ho⟩
        have HS6 : Hold _ := ⟨hs⟩
        have HB6 : Hold (Below w.heap.size w w6) := ⟨HBk.out.trans (ho.below HBk.out.size HN.out.1 HN.out.2.1 HN.out.2.2)⟩
        rw [HE.out]
        have HST : Hold _ := ⟨strokes_calls HS6.out⟩
        rw [HM.out] at HST
        clear hs ho
        go_wp2_with fail
        refine HST.out.mono ?_
        rintro e w7 ⟨rfl, rfl⟩
        go_wp2_with fail
        refine (wake_calls HS6.out (ScarsIn.nil w7) (fun q hq => by cases hq)).mono ?_
        rintro e w8 ⟨rfl, hs, ho⟩
        rw [wake_nil] at hs
        have HS8 : Hold _ := ⟨hs⟩
        have HB8 : Hold (Below w.heap.size w w8) := ⟨HB6.out.trans (ho.below HB6.out.size HN.out.1 HN.out.2.1 HN.out.2.2)⟩
        clear hs ho
        clear h1 h7 h8 hBI hk
        go_wp2
        go_loopw [9, 10, 11, 12, 89] (fun _ _ _ _ iv wr => ∃ j : Nat, j ≤ k ∧ iv = .int .i64 j ∧ Hold (SlabAt wr b g m { (cst p k).burn.2 with ink := fun _ => none, sup := -1 }) ∧ Hold (Below w.heap.size w wr)) (fun _ _ _ _ iv _ => k - (intOf iv).toNat)
        case atStart => exact ⟨0, by omega, rfl, HS8, HB8⟩
        case round =>
          obtain ⟨j, hj, rfl, HSj, HBj⟩ := hrel
          by_cases hjk : j < k
          · have hjk' : (j : Int) < k := by omega
            have hj40 : (j : Int) < 40 := by have := HT.out; omega
            have hj1 : wrap64 ((j : Int) + 1) = ((j + 1 : Nat) : Int) := by unfold wrap64; omega
            have hj8 : IntKind.u8.wrap (((j + 1 : Nat) : Int)) = ((j + 1 : Nat) : Int) := by rw [IntKind.wrap_u8]; omega
            have HFC : Hold _ := ⟨face_calls HSj.out (j : Nat)⟩
            have HRE : Hold (SM.reach { (cst p k).burn.2 with ink := fun _ => none, sup := -1 } (j : Nat) = 0) := ⟨by
              unfold SM.reach
              rw [if_neg (show ¬ (-1 : Int) = 0 by decide), if_neg]
              show ¬ ((j : Int) < 0 ∨ (((cst p k).burn.2.n : Nat) : Int) ≤ (j : Int))
              rw [HX.out.2.2.1]
              omega⟩
            have HSH : Hold (SM.shown { (cst p k).burn.2 with ink := fun _ => none, sup := -1 } j = if j < 0 then plainN (j + 1) else plainN 0) := ⟨by
              have := HX.out.2.2.2 j hjk
              rw [HBE.out] at this
              exact this⟩
            have HWF : Hold _ := ⟨hj1⟩
            clear hj1
            go_wp2_with fail
            refine HFC.out.mono ?_
            rintro e w9 (⟨h9, _⟩ | ⟨_, q, rfl, _, hq, hb9⟩)
            · exact absurd HRE.out h9
            rw [Int.toNat_natCast, HSH.out] at hq
            have HS9 : Hold _ := ⟨HSj.out.later hb9⟩
            have HB9 : Hold (Below w.heap.size w w9) := ⟨bstepS HBj.out hb9⟩
            have HQ : Hold _ := ⟨hq⟩
            clear hq hb9
            go_wp2_with fail
            refine (plain_at w9 (z := 0) (x := 0) (by omega) (by omega)).mono ?_
            rintro e wa ⟨_, rfl, ⟨q1, rfl, hq1⟩, hba⟩
            have HSa : Hold _ := ⟨HS9.out.later hba⟩
            have HBa : Hold (Below w.heap.size w wa) := ⟨bstepS HB9.out hba⟩
            have HQa : Hold _ := ⟨HQ.out.below hba HQ.out.lt⟩
            have HQ1 : Hold _ := ⟨hq1⟩
            clear hq1 hba
            have hjB : ¬ j < 0 := by omega
            have hjB' : ¬ (j : Int) < 0 := by omega
            have hw1 := HQa.out
            rw [if_neg hjB] at hw1
            have hc1 := convert_row (blk_row64 hw1 (plainN_len 0))
            have hc2 := convert_row (blk_row64 HQ1.out (plainN_len 0))
            clear hw1 hj8
            go_wp2
            go_roundw
            case rel => exact ⟨j + 1, by omega, by go_num, HSa, HBa⟩
            case measure => simp [intOf]; omega
          · obtain rfl : j = k := by omega
            have hjk' : ¬ (j : Int) < j := by omega
            have HO : Hold _ := ⟨out_no HSj.out (show (-1 : Int) ≠ 0 by decide)⟩
            go_wp2_with fail
            refine HO.out.mono ?_
            rintro e w9 ⟨rfl, rfl⟩
            go_wp2_with fail
            refine (plain_at w9 (z := 9) (x := 9) (by omega) (by omega)).mono ?_
            rintro e wa ⟨_, rfl, ⟨q1, rfl, hq1⟩, hba⟩
            have HSa : Hold _ := ⟨HSj.out.later hba⟩
            have HBa : Hold (Below w.heap.size w wa) := ⟨bstepS HBj.out hba⟩
            have HNE : Hold (∀ a, some (⟨q1, 0, none⟩ : Addr) = some a → a.block ≠ b ∧ a.block ≠ g ∧ a.block ≠ m) := ⟨fun a e => by cases e; exact fresh_ne hq1 HSa.out⟩
            have HQ : Hold _ := ⟨hq1⟩
            have HPU : Hold (∀ x : List Nat, x.length = 64 → (SM.put { (cst p j).burn.2 with ink := fun _ => none, sup := -1 } 1 x).1 = 0) := ⟨fun x hx => by
              unfold SM.put
              have hr : SM.reach { (cst p j).burn.2 with ink := fun _ => none, sup := -1 } 1 = 0 := by
                unfold SM.reach
                rw [if_neg (show ¬ (-1 : Int) = 0 by decide), if_neg]
                show ¬ ((1 : Int) < 0 ∨ (((cst p j).burn.2.n : Nat) : Int) ≤ 1)
                rw [HX.out.2.2.1]
                omega
              rw [hr, if_neg (by decide), if_neg (by omega)]⟩
            clear hq1 hba
            go_wp2_with fail
            refine (ink_calls HSa.out 1 (row_in (blk_row64 HQ.out (plainN_len 9))) (plainN_8 (by omega)) HNE.out).mono ?_
            rintro e wb ⟨rfl, _, ho⟩
            rw [HPU.out _ (plainN_len 9)]
            have HBb : Hold (Below w.heap.size w wb) := ⟨HBa.out.trans (ho.below HBa.out.size HN.out.1 HN.out.2.1 HN.out.2.2)⟩
            clear ho
            go_wp2
            go_ret
            exact ⟨rfl, HBb.out⟩
      · have h4 : (k : Int) < p := by omega
        by_cases hp2 : k ≤ p - k
        · have hB0 : cBurnt p k = k := by unfold cBurnt; omega
          have HE : Hold ((cst p k).burn.1 = 0) := ⟨by rw [HX.out.1, if_pos ⟨by omega, by rw [hB0]⟩]⟩
          have HM : Hold ((cst p k).burn.2.made = ((k : Int) + k)) := ⟨by rw [HX.out.2.1, hB0]; omega⟩
          have HBE : Hold _ := ⟨hB0⟩
          have hk := HT.out
          have hBI : min (k : Int) (max 0 ((p : Int) - k)) = (k : Int) := by omega
          have h1 : wrap64 ((p : Int) - k) = p - k := by have := HP.out; unfold wrap64; omega
          have h7 : wrap64 ((k : Int) + (k : Int)) = (k : Int) + (k : Int) := by have := HP.out; unfold wrap64; omega
          have h8 : min (p : Int) ((k : Int) + (k : Int)) = ((k : Int) + k) := by omega

          clear hB0
          go_wp2_with fail
          refine HBU.out.mono ?_
          rintro e w6 ⟨rfl, hs, ho⟩
          have HS6 : Hold _ := ⟨hs⟩
          have HB6 : Hold (Below w.heap.size w w6) := ⟨HBk.out.trans (ho.below HBk.out.size HN.out.1 HN.out.2.1 HN.out.2.2)⟩
          rw [HE.out]
          have HST : Hold _ := ⟨strokes_calls HS6.out⟩
          rw [HM.out] at HST
          clear hs ho
          go_wp2_with fail
          refine HST.out.mono ?_
          rintro e w7 ⟨rfl, rfl⟩
          go_wp2_with fail
          refine (wake_calls HS6.out (ScarsIn.nil w7) (fun q hq => by cases hq)).mono ?_
          rintro e w8 ⟨rfl, hs, ho⟩
          rw [wake_nil] at hs
          have HS8 : Hold _ := ⟨hs⟩
          have HB8 : Hold (Below w.heap.size w w8) := ⟨HB6.out.trans (ho.below HB6.out.size HN.out.1 HN.out.2.1 HN.out.2.2)⟩
          clear hs ho
          clear h1 h7 h8 hBI hk
          go_wp2
          go_loopw [9, 10, 11, 12, 89] (fun _ _ _ _ iv wr => ∃ j : Nat, j ≤ k ∧ iv = .int .i64 j ∧ Hold (SlabAt wr b g m { (cst p k).burn.2 with ink := fun _ => none, sup := -1 }) ∧ Hold (Below w.heap.size w wr)) (fun _ _ _ _ iv _ => k - (intOf iv).toNat)
          case atStart => exact ⟨0, by omega, rfl, HS8, HB8⟩
          case round =>
            obtain ⟨j, hj, rfl, HSj, HBj⟩ := hrel
            by_cases hjk : j < k
            · have hjk' : (j : Int) < k := by omega
              have hj40 : (j : Int) < 40 := by have := HT.out; omega
              have hj1 : wrap64 ((j : Int) + 1) = ((j + 1 : Nat) : Int) := by unfold wrap64; omega
              have hj8 : IntKind.u8.wrap (((j + 1 : Nat) : Int)) = ((j + 1 : Nat) : Int) := by rw [IntKind.wrap_u8]; omega
              have HFC : Hold _ := ⟨face_calls HSj.out (j : Nat)⟩
              have HRE : Hold (SM.reach { (cst p k).burn.2 with ink := fun _ => none, sup := -1 } (j : Nat) = 0) := ⟨by
                unfold SM.reach
                rw [if_neg (show ¬ (-1 : Int) = 0 by decide), if_neg]
                show ¬ ((j : Int) < 0 ∨ (((cst p k).burn.2.n : Nat) : Int) ≤ (j : Int))
                rw [HX.out.2.2.1]
                omega⟩
              have HSH : Hold (SM.shown { (cst p k).burn.2 with ink := fun _ => none, sup := -1 } j = if j < k then plainN (j + 1) else plainN 0) := ⟨by
                have := HX.out.2.2.2 j hjk
                rw [HBE.out] at this
                exact this⟩
              have HWF : Hold _ := ⟨hj1⟩
              clear hj1
              go_wp2_with fail
              refine HFC.out.mono ?_
              rintro e w9 (⟨h9, _⟩ | ⟨_, q, rfl, _, hq, hb9⟩)
              · exact absurd HRE.out h9
              rw [Int.toNat_natCast, HSH.out] at hq
              have HS9 : Hold _ := ⟨HSj.out.later hb9⟩
              have HB9 : Hold (Below w.heap.size w w9) := ⟨bstepS HBj.out hb9⟩
              have HQ : Hold _ := ⟨hq⟩
              clear hq hb9
              go_wp2_with fail
              refine (plain_at w9 (z := 0) (x := 0) (by omega) (by omega)).mono ?_
              rintro e wa ⟨_, rfl, ⟨q1, rfl, hq1⟩, hba⟩
              have HSa : Hold _ := ⟨HS9.out.later hba⟩
              have HBa : Hold (Below w.heap.size w wa) := ⟨bstepS HB9.out hba⟩
              have HQa : Hold _ := ⟨HQ.out.below hba HQ.out.lt⟩
              have HQ1 : Hold _ := ⟨hq1⟩
              clear hq1 hba
              have hjB : j < k := hjk
              have hjB' : (j : Int) < (k : Int) := by omega
              have hj1 := HWF.out
              have hw1 := HQa.out
              rw [if_pos hjB] at hw1
              have HW1 : Hold _ := ⟨hw1⟩
              clear hw1
              go_wp2_with fail
              refine (plain_at wa (z := (j : Int) + 1) (x := j + 1) (by omega) (by omega)).mono ?_
              rintro e wb ⟨_, rfl, ⟨q2, rfl, hq2⟩, hbb⟩
              have HSb : Hold _ := ⟨HSa.out.later hbb⟩
              have HBb : Hold (Below w.heap.size w wb) := ⟨bstepS HBa.out hbb⟩
              have hc1 := convert_row (blk_row64 (HW1.out.below hbb HW1.out.lt) (plainN_len (j + 1)))
              have hc2 := convert_row (blk_row64 hq2 (plainN_len (j + 1)))
              clear hq2 hbb hj1 hj8
              go_wp2
              go_roundw
              case rel => exact ⟨j + 1, by omega, by go_num, HSb, HBb⟩
              case measure => simp [intOf]; omega
            · obtain rfl : j = k := by omega
              have hjk' : ¬ (j : Int) < j := by omega
              have HO : Hold _ := ⟨out_no HSj.out (show (-1 : Int) ≠ 0 by decide)⟩
              go_wp2_with fail
              refine HO.out.mono ?_
              rintro e w9 ⟨rfl, rfl⟩
              go_wp2_with fail
              refine (plain_at w9 (z := 9) (x := 9) (by omega) (by omega)).mono ?_
              rintro e wa ⟨_, rfl, ⟨q1, rfl, hq1⟩, hba⟩
              have HSa : Hold _ := ⟨HSj.out.later hba⟩
              have HBa : Hold (Below w.heap.size w wa) := ⟨bstepS HBj.out hba⟩
              have HNE : Hold (∀ a, some (⟨q1, 0, none⟩ : Addr) = some a → a.block ≠ b ∧ a.block ≠ g ∧ a.block ≠ m) := ⟨fun a e => by cases e; exact fresh_ne hq1 HSa.out⟩
              have HQ : Hold _ := ⟨hq1⟩
              have HPU : Hold (∀ x : List Nat, x.length = 64 → (SM.put { (cst p j).burn.2 with ink := fun _ => none, sup := -1 } 1 x).1 = 0) := ⟨fun x hx => by
                unfold SM.put
                have hr : SM.reach { (cst p j).burn.2 with ink := fun _ => none, sup := -1 } 1 = 0 := by
                  unfold SM.reach
                  rw [if_neg (show ¬ (-1 : Int) = 0 by decide), if_neg]
                  show ¬ ((1 : Int) < 0 ∨ (((cst p j).burn.2.n : Nat) : Int) ≤ 1)
                  rw [HX.out.2.2.1]
                  omega
                rw [hr, if_neg (by decide), if_neg (by omega)]⟩
              clear hq1 hba
              go_wp2_with fail
              refine (ink_calls HSa.out 1 (row_in (blk_row64 HQ.out (plainN_len 9))) (plainN_8 (by omega)) HNE.out).mono ?_
              rintro e wb ⟨rfl, _, ho⟩
              rw [HPU.out _ (plainN_len 9)]
              have HBb : Hold (Below w.heap.size w wb) := ⟨HBa.out.trans (ho.below HBa.out.size HN.out.1 HN.out.2.1 HN.out.2.2)⟩
              clear ho
              go_wp2
              go_ret
              exact ⟨rfl, HBb.out⟩
        · obtain ⟨BI, hBI9⟩ : ∃ BI : Int, (p : Int) - k = BI := ⟨_, rfl⟩
          have HBI : Hold _ := ⟨hBI9⟩
          clear hBI9
          have hB0 : cBurnt p k = (p - k) := by unfold cBurnt; omega
          have HE : Hold ((cst p k).burn.1 = 12) := ⟨by rw [HX.out.1, if_neg (by rw [hB0]; omega)]⟩
          have HM : Hold ((cst p k).burn.2.made = (p : Int)) := ⟨by rw [HX.out.2.1, hB0]; omega⟩
          have HBE : Hold _ := ⟨hB0⟩
          have hk := HT.out
          have hBI : min (k : Int) (max 0 ((p : Int) - k)) = BI := by have := HBI.out; omega
          have h1 : wrap64 ((p : Int) - k) = (p : Int) - k := by have := HBI.out; have := HP.out; unfold wrap64; omega
          have h7 : wrap64 ((k : Int) + BI) = (p : Int) := by have := HBI.out; have := HP.out; unfold wrap64; omega
          have h8 : min (p : Int) ((p : Int)) = (p : Int) := by omega
          have h6 : (BI == (k : Int)) = false := by have := HBI.out; simp; omega
          have h9 : (k : Int) + BI = p := by have := HBI.out; omega
          clear hB0
          go_wp2_with fail
          refine HBU.out.mono ?_
          rintro e w6 ⟨rfl, hs, ho⟩
          have HS6 : Hold _ := ⟨hs⟩
          have HB6 : Hold (Below w.heap.size w w6) := ⟨HBk.out.trans (ho.below HBk.out.size HN.out.1 HN.out.2.1 HN.out.2.2)⟩
          rw [HE.out]
          have HST : Hold _ := ⟨strokes_calls HS6.out⟩
          rw [HM.out] at HST
          clear hs ho
          go_wp2_with fail
          refine HST.out.mono ?_
          rintro e w7 ⟨rfl, rfl⟩
          go_wp2_with fail
          refine (wake_calls HS6.out (ScarsIn.nil w7) (fun q hq => by cases hq)).mono ?_
          rintro e w8 ⟨rfl, hs, ho⟩
          rw [wake_nil] at hs
          have HS8 : Hold _ := ⟨hs⟩
          have HB8 : Hold (Below w.heap.size w w8) := ⟨HB6.out.trans (ho.below HB6.out.size HN.out.1 HN.out.2.1 HN.out.2.2)⟩
          clear hs ho
          clear h1 h9 h7 h8 hBI hk
          go_wp2
          go_loopw [9, 10, 11, 12, 89] (fun _ _ _ _ iv wr => ∃ j : Nat, j ≤ k ∧ iv = .int .i64 j ∧ Hold (SlabAt wr b g m { (cst p k).burn.2 with ink := fun _ => none, sup := -1 }) ∧ Hold (Below w.heap.size w wr)) (fun _ _ _ _ iv _ => k - (intOf iv).toNat)
          case atStart => exact ⟨0, by omega, rfl, HS8, HB8⟩
          case round =>
            obtain ⟨j, hj, rfl, HSj, HBj⟩ := hrel
            by_cases hjk : j < k
            · have hjk' : (j : Int) < k := by omega
              have hj40 : (j : Int) < 40 := by have := HT.out; omega
              have hj1 : wrap64 ((j : Int) + 1) = ((j + 1 : Nat) : Int) := by unfold wrap64; omega
              have hj8 : IntKind.u8.wrap (((j + 1 : Nat) : Int)) = ((j + 1 : Nat) : Int) := by rw [IntKind.wrap_u8]; omega
              have HFC : Hold _ := ⟨face_calls HSj.out (j : Nat)⟩
              have HRE : Hold (SM.reach { (cst p k).burn.2 with ink := fun _ => none, sup := -1 } (j : Nat) = 0) := ⟨by
                unfold SM.reach
                rw [if_neg (show ¬ (-1 : Int) = 0 by decide), if_neg]
                show ¬ ((j : Int) < 0 ∨ (((cst p k).burn.2.n : Nat) : Int) ≤ (j : Int))
                rw [HX.out.2.2.1]
                omega⟩
              have HSH : Hold (SM.shown { (cst p k).burn.2 with ink := fun _ => none, sup := -1 } j = if j < (p - k) then plainN (j + 1) else plainN 0) := ⟨by
                have := HX.out.2.2.2 j hjk
                rw [HBE.out] at this
                exact this⟩
              have HWF : Hold _ := ⟨hj1⟩
              clear hj1
              go_wp2_with fail
              refine HFC.out.mono ?_
              rintro e w9 (⟨h9, _⟩ | ⟨_, q, rfl, _, hq, hb9⟩)
              · exact absurd HRE.out h9
              rw [Int.toNat_natCast, HSH.out] at hq
              have HS9 : Hold _ := ⟨HSj.out.later hb9⟩
              have HB9 : Hold (Below w.heap.size w w9) := ⟨bstepS HBj.out hb9⟩
              have HQ : Hold _ := ⟨hq⟩
              clear hq hb9
              go_wp2_with fail
              refine (plain_at w9 (z := 0) (x := 0) (by omega) (by omega)).mono ?_
              rintro e wa ⟨_, rfl, ⟨q1, rfl, hq1⟩, hba⟩
              have HSa : Hold _ := ⟨HS9.out.later hba⟩
              have HBa : Hold (Below w.heap.size w wa) := ⟨bstepS HB9.out hba⟩
              have HQa : Hold _ := ⟨HQ.out.below hba HQ.out.lt⟩
              have HQ1 : Hold _ := ⟨hq1⟩
              clear hq1 hba
              by_cases hjB : j < (p - k)
              · have hjB' : (j : Int) < BI := by have := HBI.out; omega
                have hj1 := HWF.out
                have hw1 := HQa.out
                rw [if_pos hjB] at hw1
                have HW1 : Hold _ := ⟨hw1⟩
                clear hw1
                go_wp2_with fail
                refine (plain_at wa (z := (j : Int) + 1) (x := j + 1) (by omega) (by omega)).mono ?_
                rintro e wb ⟨_, rfl, ⟨q2, rfl, hq2⟩, hbb⟩
                have HSb : Hold _ := ⟨HSa.out.later hbb⟩
                have HBb : Hold (Below w.heap.size w wb) := ⟨bstepS HBa.out hbb⟩
                have hc1 := convert_row (blk_row64 (HW1.out.below hbb HW1.out.lt) (plainN_len (j + 1)))
                have hc2 := convert_row (blk_row64 hq2 (plainN_len (j + 1)))
                clear hq2 hbb hj1 hj8
                go_wp2
                go_roundw
                case rel => exact ⟨j + 1, by omega, by go_num, HSb, HBb⟩
                case measure => simp [intOf]; omega
              · have hjB' : ¬ (j : Int) < BI := by have := HBI.out; omega
                have hw1 := HQa.out
                rw [if_neg hjB] at hw1
                have hc1 := convert_row (blk_row64 hw1 (plainN_len 0))
                have hc2 := convert_row (blk_row64 HQ1.out (plainN_len 0))
                clear hw1 hj8
                go_wp2
                go_roundw
                case rel => exact ⟨j + 1, by omega, by go_num, HSa, HBa⟩
                case measure => simp [intOf]; omega
            · obtain rfl : j = k := by omega
              have hjk' : ¬ (j : Int) < j := by omega
              have HO : Hold _ := ⟨out_no HSj.out (show (-1 : Int) ≠ 0 by decide)⟩
              go_wp2_with fail
              refine HO.out.mono ?_
              rintro e w9 ⟨rfl, rfl⟩
              go_wp2_with fail
              refine (plain_at w9 (z := 9) (x := 9) (by omega) (by omega)).mono ?_
              rintro e wa ⟨_, rfl, ⟨q1, rfl, hq1⟩, hba⟩
              have HSa : Hold _ := ⟨HSj.out.later hba⟩
              have HBa : Hold (Below w.heap.size w wa) := ⟨bstepS HBj.out hba⟩
              have HNE : Hold (∀ a, some (⟨q1, 0, none⟩ : Addr) = some a → a.block ≠ b ∧ a.block ≠ g ∧ a.block ≠ m) := ⟨fun a e => by cases e; exact fresh_ne hq1 HSa.out⟩
              have HQ : Hold _ := ⟨hq1⟩
              have HPU : Hold (∀ x : List Nat, x.length = 64 → (SM.put { (cst p j).burn.2 with ink := fun _ => none, sup := -1 } 1 x).1 = 0) := ⟨fun x hx => by
                unfold SM.put
                have hr : SM.reach { (cst p j).burn.2 with ink := fun _ => none, sup := -1 } 1 = 0 := by
                  unfold SM.reach
                  rw [if_neg (show ¬ (-1 : Int) = 0 by decide), if_neg]
                  show ¬ ((1 : Int) < 0 ∨ (((cst p j).burn.2.n : Nat) : Int) ≤ 1)
                  rw [HX.out.2.2.1]
                  omega
                rw [hr, if_neg (by decide), if_neg (by omega)]⟩
              clear hq1 hba
              go_wp2_with fail
              refine (ink_calls HSa.out 1 (row_in (blk_row64 HQ.out (plainN_len 9))) (plainN_8 (by omega)) HNE.out).mono ?_
              rintro e wb ⟨rfl, _, ho⟩
              rw [HPU.out _ (plainN_len 9)]
              have HBb : Hold (Below w.heap.size w wb) := ⟨HBa.out.trans (ho.below HBa.out.size HN.out.1 HN.out.2.1 HN.out.2.2)⟩
              clear ho
              go_wp2
              go_ret
              exact ⟨rfl, HBb.out⟩

end Go.Proofs.Ytpodoleopebioaa
