/- CertSmalls, walked. -/
import Derived.Test.YtceihmiiapnmnaaCertG
import Derived.Deep.Cut
namespace Go.Proofs.Ytceihmiiapnmnaa
open Go Go.RowKit Go.Proofs.Ytceihmiiapnmnaa.Flow
set_option maxRecDepth 100000

theorem divs_step (n k : Nat) : ((List.range (k + 1)).filter fun d => n % (d + 1) == 0).length = ((List.range k).filter fun d => n % (d + 1) == 0).length + (if n % (k + 1) = 0 then 1 else 0) := by
  rw [List.range_succ, List.filter_append, List.length_append]
  congr 1
  by_cases h : n % (k + 1) = 0
  · simp [h]
  · simp [h]

set_option maxHeartbeats 2000000 in
set_option maxRecDepth 100000 in
theorem ddivs_calls (w : World) (n : Nat) (hn : n ≤ 65536) :
    Calls Try.prog 17 #[.int .i64 n] w fun e w' => e = .returned (.int .i64 (divs n : Nat)) ∧ Below w.heap.size w w' := by
  go_enter Try.func17, Try.ntmps17
  go_wp2
  go_loopw [3, 4] (fun ov dv wr => w = wr ∧ ∃ k : Nat, k ≤ n ∧ dv = .int .i64 ((k : Int) + 1) ∧ ov = .int .i64 ((((List.range k).filter fun d => n % (d + 1) == 0).length : Nat) : Int)) (fun _ dv _ => n + 1 - (intOf dv).toNat)
  case atStart => exact ⟨rfl, 0, by omega, rfl, rfl⟩
  case round =>
    obtain ⟨rfl, k, hk, rfl, rfl⟩ := hrel
    have hst := divs_step n k
    have hle : ((List.range k).filter fun d => n % (d + 1) == 0).length ≤ k := by
      have := List.length_filter_le (fun d => n % (d + 1) == 0) (List.range k)
      rwa [List.length_range] at this
    obtain ⟨O, hO⟩ : ∃ O, ((List.range k).filter fun d => n % (d + 1) == 0).length = O := ⟨_, rfl⟩
    rw [hO] at hst hle
    rw [hO]
    have HST : Hold _ := ⟨hst⟩
    have HO : Hold (k = n → O = divs n) := ⟨fun e => by rw [← hO, e]; rfl⟩
    clear hO hst
    by_cases hkn : k < n
    · have hmod : (n : Int).tmod ((k : Int) + 1) = ((n % (k + 1) : Nat) : Int) := by rw [Int.tmod_eq_emod_of_nonneg (by omega)]; simp
      obtain ⟨R, hR⟩ : ∃ R, n % (k + 1) = R := ⟨_, rfl⟩
      rw [hR] at hmod
      have hd0 : ¬ (k : Int) + 1 = 0 := by omega
      have hkn' : (k : Int) + 1 ≤ n := by omega
      rcases Nat.eq_zero_or_pos R with h0 | h0
      · subst h0
        have HN : Hold _ := ⟨by have := HST.out; rw [if_pos hR] at this; exact this⟩
        clear hR
        go_wp2
        go_roundw
        case rel => exact ⟨trivial, k + 1, by omega, by go_num, by rw [HN.out]; go_num⟩
        case measure => simp [intOf]; omega
      · have hR0 : ((R : Int) == 0) = false := by rw [beq_eq_false_iff_ne]; omega
        have HN : Hold _ := ⟨by have := HST.out; rw [if_neg (by omega)] at this; exact this⟩
        clear hR
        go_wp2
        go_roundw
        case rel => exact ⟨trivial, k + 1, by omega, by go_num, by rw [HN.out]; go_num⟩
        case measure => simp [intOf]; omega
    · have hkn' : ¬ (k : Int) + 1 ≤ n := by omega
      have HE : Hold (O = divs n) := ⟨HO.out (by omega)⟩
      go_wp2
      go_ret
      exact ⟨by rw [← HE.out]; rfl, Below.refl _ _⟩

set_option maxHeartbeats 2000000 in
set_option maxRecDepth 100000 in
theorem smalls_calls (hs : SmallDoes) (hh : HoldsDoes) (w : World) (n : Nat) (hn : n < 18446744073709551616) :
    Calls Try.prog 5 #[.int .u64 n] w fun e w' => e = .returned (.bool true) ∧ Below w.heap.size w w' := by
  have HS : Hold _ := ⟨hs⟩
  have HH : Hold _ := ⟨hh⟩
  clear hs hh
  have HN : Hold (n < B32 2) := ⟨hn⟩
  by_cases hg : n < 65536
  · have hg' : ¬ (65536 : Int) ≤ n := by omega
    have HCV : Hold (IntKind.i64.wrap (n : Int) = n) := ⟨IntWalk.i64_in _ (by omega)⟩
    have HG : Hold _ := ⟨hg⟩
    have HN2 : Hold _ := ⟨hn⟩
    obtain ⟨K, hgK⟩ : ∃ K : Int, (65536 : Int) = K := ⟨_, rfl⟩
    rw [hgK] at hg'
    clear hg hn
    go_enter Try.func5, Try.ntmps5
    go_wp2_with fail
    refine (lives8_calls HH.out w).mono ?_
    rintro en w1 ⟨rfl, b1⟩
    have B1 : Hold _ := ⟨b1⟩
    clear b1
    go_upto_region 3 with fail
    rw [hgK]
    clear hgK
    go_wp2_with fail
    refine (nat_fit n w1 HN2.out).mono ?_
    rintro en w2 ⟨q, m, d, rfl, h2, b2⟩
    have B2 : Hold _ := ⟨bstep B1.out b2⟩
    have H2 : Hold _ := ⟨h2⟩
    clear b2 h2
    go_wp2_with fail
    refine (HS.out w2 n 2 _ (Fit.of H2.out HN.out) (by decide)).mono ?_
    rintro en w3 ⟨rfl, b3⟩
    obtain ⟨S, hS⟩ : ∃ S, (@decide (SmallP n) (Classical.propDecidable _)) = S := ⟨_, rfl⟩
    rw [hS]
    have B3 : Hold _ := ⟨bstep B2.out b3⟩
    have hSd : Hold (((((divs n : Nat) : Int) == 2)) = S) := ⟨by
      rw [← hS]
      by_cases hp : SmallP n
      · rw [@decide_eq_true _ (Classical.propDecidable _) hp]
        have := divs_two.2 hp.prime
        rw [this]; rfl
      · rw [@decide_eq_false _ (Classical.propDecidable _) hp, beq_eq_false_iff_ne]
        intro e
        exact hp (smallP_iff.2 ⟨HG.out, divs_two.1 (by omega)⟩)⟩
    clear b3 hS
    have hcv := HCV.out
    go_wp2_with fail
    refine (ddivs_calls w3 n (Nat.le_of_lt HG.out)).mono ?_
    rintro en w4 ⟨rfl, b4⟩
    have B4 : Hold _ := ⟨bstep B3.out b4⟩
    obtain ⟨DV, hDV⟩ : ∃ x, divs n = x := ⟨_, rfl⟩
    rw [hDV] at hSd
    rw [hDV]
    have hSd' := hSd.out
    clear b4 hDV
    go_wp2
    go_ret
    exact ⟨by simp, B4.out⟩
  · have hg' : (65536 : Int) ≤ n := by omega
    have HF : Hold ((@decide (SmallP n) (Classical.propDecidable _)) = false) := ⟨@decide_eq_false _ (Classical.propDecidable _) fun h => hg h.2.1⟩
    obtain ⟨K, hgK⟩ : ∃ K : Int, (65536 : Int) = K := ⟨_, rfl⟩
    rw [hgK] at hg'
    have HN2 : Hold _ := ⟨hn⟩
    clear hg hn
    go_enter Try.func5, Try.ntmps5
    go_wp2_with fail
    refine (lives8_calls HH.out w).mono ?_
    rintro en w1 ⟨rfl, b1⟩
    have B1 : Hold _ := ⟨b1⟩
    clear b1
    go_upto_region 3 with fail
    rw [hgK]
    clear hgK
    go_wp2_with fail
    refine (nat_fit n w1 HN2.out).mono ?_
    rintro en w2 ⟨q, m, d, rfl, h2, b2⟩
    have B2 : Hold _ := ⟨bstep B1.out b2⟩
    have H2 : Hold _ := ⟨h2⟩
    clear b2 h2
    go_wp2_with fail
    refine (HS.out w2 n 2 _ (Fit.of H2.out HN.out) (by decide)).mono ?_
    rintro en w3 ⟨rfl, b3⟩
    rw [HF.out]
    have B3 : Hold _ := ⟨bstep B2.out b3⟩
    clear b3
    go_wp2
    go_ret
    exact ⟨rfl, B3.out⟩

end Go.Proofs.Ytceihmiiapnmnaa
