/- The document's primes. -/
import Derived.Test.YtgpkkcielpogoaaDoorFixM
import Derived.Test.YtgpkkcielpogoaaDoorShaT
namespace Go.Proofs.YtgpkkcielpogoaaDoor
open Go Go.RowKit

/-- From q on the j-th is R. -/
structure PrimAt (q j R : Nat) : Prop where
  is : prim (400 - q) q j = R

set_option maxHeartbeats 4000000 in
set_option maxRecDepth 100000 in
theorem prime_calls (w : World) (n : Nat) (hn : n < 1000) : Calls Tryd.prog 19 #[.int .i64 n] w fun e w' => e = .returned (.int .u64 (prime n : Nat)) ∧ w = w' := by
  obtain ⟨R, hR⟩ : ∃ R, prime n = R := ⟨_, rfl⟩
  have HR : PrimAt 2 n R := ⟨hR⟩
  rw [hR]
  clear hR
  go_enter Tryd.func19, Tryd.ntmps19
  go_wp2
  go_loopw [0, 3] (fun m p w1 => ∃ j q : Nat, j < 1000 ∧ 2 ≤ q ∧ q ≤ 400 ∧ m = .int .i64 j ∧ p = .int .u64 q ∧ w = w1 ∧ PrimAt q j R) (fun _ p _ => 400 - (intOf p).toNat)
  case atStart => exact ⟨n, 2, hn, by omega, by omega, rfl, rfl, rfl, HR⟩
  case round =>
    obtain ⟨j, q, hj, hq2, hq, rfl, rfl, rfl, HJ⟩ := hrel
    by_cases hq4 : q < 400
    · go_wp2
      go_loopw [4, 5] (fun b d w2 => ∃ D : Nat, 2 ≤ D ∧ D ≤ 20 ∧ b = .bool (sieve q D) ∧ d = .int .u64 D ∧ w = w2) (fun _ d _ => 20 - (intOf d).toNat)
      case atStart => exact ⟨2, by omega, by omega, by rw [sieve_two], rfl, rfl⟩
      case round =>
        obtain ⟨D, hD2, hD, rfl, rfl, rfl⟩ := hrel
        have hDD : D * D ≤ 20 * 20 := Nat.mul_le_mul hD hD
        have hwr : IntKind.u64.wrap ((D : Int) * D) = ((D * D : Nat) : Int) := by
          rw [← Int.natCast_mul]
          exact IntWalk.u64_in _ (by omega)
        by_cases hd : D * D ≤ q
        · have hD19 : D < 20 := by
            rcases Nat.lt_or_ge D 20 with h | h
            · exact h
            · have := Nat.mul_le_mul h h
              omega
          have hst := sieve_step hD2 hd
          have hdi : decide (IntKind.u64.wrap ((D : Int) * D) ≤ (q : Int)) = true := by rw [hwr, decide_eq_true_eq]; omega
          have hmod : ((q : Int) % D == 0) = decide (q % D = 0) := by
            rw [Bool.eq_iff_iff]; simp only [beq_iff_eq, decide_eq_true_eq]; omega
          by_cases hm : q % D = 0
          · rw [decide_eq_true hm] at hmod
            have hst2 : false = sieve q (D + 1) := by rw [hst, hm]; simp
            go_wp2
            go_roundw
            case rel => exact ⟨D + 1, by omega, by omega, by rw [← hst2], by go_num, trivial⟩
            case measure => simp only [intOf]; omega
          · rw [decide_eq_false hm] at hmod
            have hst2 : sieve q D = sieve q (D + 1) := by rw [hst]; simp [hm]
            go_wp2
            go_roundw
            case rel => exact ⟨D + 1, by omega, by omega, by rw [← hst2], by go_num, trivial⟩
            case measure => simp only [intOf]; omega
        · have hdi : decide (IntKind.u64.wrap ((D : Int) * D) ≤ (q : Int)) = false := by rw [hwr, decide_eq_false_iff_not]; omega
          have hst := isp_of q D (by omega) hD
          rw [← hst]
          clear hst
          have e400 : 400 - q = (400 - (q + 1)) + 1 := by omega
          have hp := HJ.is
          rw [e400] at hp
          cases hs : isp q with
          | true =>
            by_cases hj0 : j = 0
            · subst hj0
              have hr : q = R := by simpa [prim, hs] using hp
              clear hp
              go_wp2
              go_ret
              exact ⟨by rw [← hr]; rfl, rfl⟩
            · have hr : PrimAt (q + 1) (j - 1) R := ⟨by simpa [prim, hs, hj0] using hp⟩
              clear hp
              have hj1 : ((j : Int) == 0) = false := by simpa using hj0
              have hj2 : (j : Int) - 1 = ((j - 1 : Nat) : Int) := by omega
              go_wp2
              go_roundw
              case rel => exact ⟨j - 1, q + 1, by omega, by omega, by omega, by rw [← hj2], by go_num, trivial, hr⟩
              case measure => simp only [intOf]; omega
          | false =>
            have hr : PrimAt (q + 1) j R := ⟨by simpa [prim, hs] using hp⟩
            clear hp
            go_wp2
            go_roundw
            case rel => exact ⟨j, q + 1, by omega, by omega, by omega, rfl, by go_num, trivial, hr⟩
            case measure => simp only [intOf]; omega
    · obtain rfl : q = 400 := by omega
      have hr : 0 = R := by simpa [prim] using HJ.is
      go_wp2
      go_ret
      exact ⟨by rw [← hr]; rfl, rfl⟩
end Go.Proofs.YtgpkkcielpogoaaDoor
