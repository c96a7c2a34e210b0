/- CertPrimes, walked. -/
import Derived.Test.YtceihmiiapnmnaaCertN
namespace Go.Proofs.Ytceihmiiapnmnaa
open Go Go.RowKit Go.Proofs.Ytceihmiiapnmnaa.Flow
set_option maxRecDepth 100000

/-- What is told to be a prime is one. -/
theorem told_prime {N : Nat} {l : List StepN} (h : SmallP N ∨ (ChainP [] l ∧ ∃ s ∈ l, s.n = N)) : Prime N := by
  rcases h with h | ⟨h, s, hs, rfl⟩
  · exact h.prime
  · exact chain_prime l [] (fun x hx => by cases hx) h s hs

set_option maxHeartbeats 4000000 in
set_option maxRecDepth 100000 in
open Classical in
theorem primes_calls (hh : HoldsDoes) (hp : PrimeDoes) (w : World) (p : Option Addr) (m c n : Nat) (l : List StepN) (h : ClaimsIn w p m c l) (hn : n < 18446744073709551616) :
    Calls Try.prog 4 #[.slice p m c, .int .u64 n] w fun e w' => e = .returned (.bool true) ∧ Below w.heap.size w w' := by
  have HH : Hold _ := ⟨hh⟩
  have HP : Hold _ := ⟨hp⟩
  have HC : Hold _ := ⟨h⟩
  have HN : Hold _ := ⟨hn⟩
  obtain ⟨K, hK⟩ : ∃ K : Int, (4294967296 : Int) = K := ⟨_, rfl⟩
  have HK : Hold _ := ⟨hK⟩
  clear hh hp h hn
  by_cases hf : FewP l
  · have HF : Hold _ := ⟨hf⟩
    by_cases hg : K ≤ (n : Int)
    · clear hf
      go_enter Try.func4, Try.ntmps4
      rw [hK]
      clear hK
      go_wp2_with fail
      refine (lives8_calls HH.out w).mono ?_
      rintro en w1 ⟨rfl, b1⟩
      have B1 : Hold _ := ⟨b1⟩
      clear b1
      go_wp2_with fail
      refine (few8_calls w1 p m c l (HC.out.below B1.out)).mono ?_
      rintro en w2 ⟨rfl, b2⟩
      rw [@decide_eq_true _ (Classical.propDecidable _) HF.out]
      have B2 : Hold _ := ⟨bstep B1.out b2⟩
      clear b2
      go_wp2_with fail
      refine (lives8_calls HH.out w2).mono ?_
      rintro en w3 ⟨rfl, b3⟩
      have B3 : Hold _ := ⟨bstep B2.out b3⟩
      clear b3
      go_wp2
      go_ret
      exact ⟨rfl, B3.out⟩
    · have HG : Hold (n < 4294967296) := ⟨by omega⟩
      clear hf
      go_enter Try.func4, Try.ntmps4
      rw [hK]
      clear hK
      go_wp2_with fail
      refine (lives8_calls HH.out w).mono ?_
      rintro en w1 ⟨rfl, b1⟩
      have B1 : Hold _ := ⟨b1⟩
      clear b1
      go_wp2_with fail
      refine (few8_calls w1 p m c l (HC.out.below B1.out)).mono ?_
      rintro en w2 ⟨rfl, b2⟩
      rw [@decide_eq_true _ (Classical.propDecidable _) HF.out]
      have B2 : Hold _ := ⟨bstep B1.out b2⟩
      clear b2
      go_wp2_with fail
      refine (chain_calls w2 p m c l (HC.out.below B2.out) HF.out).mono ?_
      rintro en w3 ⟨p1, c1, p2, c2, rfl, h1, _, b3⟩
      have B3 : Hold _ := ⟨bstep B2.out b3⟩
      have HS1 : Hold _ := ⟨h1⟩
      have hl8 := HF.out.1
      clear b3 h1
      go_wp2_with fail
      refine (nat_fit n w3 HN.out).mono ?_
      rintro en w4 ⟨q, d, r, rfl, h4, b4⟩
      have B4 : Hold _ := ⟨bstep B3.out b4⟩
      have H4 : Hold _ := ⟨h4⟩
      have HS4 : Hold _ := ⟨HS1.out.below b4⟩
      clear b4 h4
      go_wp2_with fail
      refine (HP.out w4 n _ _ _ _ l (Fit.of H4.out (lt_B2 HN.out)) HS4.out (by omega) (fun s hs => by have := HF.out.2 s hs; omega)).mono ?_
      rintro en w5 ⟨rfl, b5⟩
      have B5 : Hold _ := ⟨bstep B4.out b5⟩
      clear b5
      by_cases hpr : SmallP n ∨ (ChainP [] l ∧ ∃ s ∈ l, s.n = n)
      · rw [decide_eq_true hpr]
        have HPR : Hold (Prime n) := ⟨told_prime hpr⟩
        clear hpr
        go_wp2
        go_loopw [7] (fun dv wr => w5 = wr ∧ ∃ d : Nat, 2 ≤ d ∧ d ≤ 65536 ∧ dv = .int .u64 d) (fun dv _ => 70000 - (intOf dv).toNat)
        case atStart => exact ⟨rfl, 2, by omega, by omega, rfl⟩
        case round =>
          obtain ⟨rfl, d, hd2, hd, rfl⟩ := hrel
          obtain ⟨S, hS⟩ : ∃ S, d * d = S := ⟨_, rfl⟩
          have hS' : (d : Int) * d = (S : Nat) := by rw [← hS]; simp
          have hSl : S ≤ 65536 * 65536 := by rw [← hS]; exact Nat.mul_le_mul hd hd
          by_cases hdd : S ≤ n
          · have hmod : (n : Int).tmod d = ((n % d : Nat) : Int) := by rw [Int.tmod_eq_emod_of_nonneg (by omega)]; simp
            obtain ⟨R, hR⟩ : ∃ R, n % d = R := ⟨_, rfl⟩
            rw [hR] at hmod
            have hd0 : ¬ (d : Int) = 0 := by omega
            have hdd' : (S : Int) ≤ n := by omega
            have hRne := prime_root HPR.out hd2 (by omega : d * d ≤ n)
            have hR0 : ((R : Int) == 0) = false := by rw [beq_eq_false_iff_ne]; omega
            have hdlt : d + 1 ≤ 65536 := by
              rcases Nat.lt_or_ge d 65536 with h | h
              · omega
              · have := Nat.mul_le_mul h h
                have := HG.out
                omega
            have hS2 := Lib.hid hS
            have hR2 := Lib.hid hR
            clear hS hR hRne
            go_wp2
            go_roundw
            case rel => exact ⟨trivial, d + 1, by omega, by omega, by go_num⟩
            case measure => simp [intOf]; omega
          · have hdd' : ¬ (S : Int) ≤ n := by omega
            have h2n : (2 : Int) ≤ n := by have := HPR.out.two; omega
            have hS2 := Lib.hid hS
            clear hS
            go_wp2
            go_ret
            exact ⟨rfl, B5.out⟩
      · rw [decide_eq_false hpr]
        clear hpr
        go_wp2
        go_ret
        exact ⟨rfl, B5.out⟩
  · go_enter Try.func4, Try.ntmps4
    rw [hK]
    clear hK
    go_wp2_with fail
    refine (lives8_calls HH.out w).mono ?_
    rintro en w1 ⟨rfl, b1⟩
    have B1 : Hold _ := ⟨b1⟩
    clear b1
    go_wp2_with fail
    refine (few8_calls w1 p m c l (HC.out.below B1.out)).mono ?_
    rintro en w2 ⟨rfl, b2⟩
    rw [@decide_eq_false _ (Classical.propDecidable _) hf]
    have B2 : Hold _ := ⟨bstep B1.out b2⟩
    clear b2
    go_wp2_with fail
    refine (lives8_calls HH.out w2).mono ?_
    rintro en w3 ⟨rfl, b3⟩
    have B3 : Hold _ := ⟨bstep B2.out b3⟩
    clear b3
    go_wp2
    go_ret
    exact ⟨rfl, B3.out⟩

end Go.Proofs.Ytceihmiiapnmnaa
