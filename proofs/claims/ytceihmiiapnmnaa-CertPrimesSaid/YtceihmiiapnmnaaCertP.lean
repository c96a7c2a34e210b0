/- CertChecks, walked. -/
import Derived.Test.YtceihmiiapnmnaaCertO
namespace Go.Proofs.Ytceihmiiapnmnaa
open Go Go.RowKit Go.Proofs.Ytceihmiiapnmnaa.Flow
set_option maxRecDepth 100000

theorem B2_B200 {N : Nat} (h : N < B32 2) : N < B32 200 := Nat.lt_of_lt_of_le h (Nat.pow_le_pow_right (by decide) (by decide))
theorem PList.up {w : World} {p : Option Addr} {n c : Nat} {Ns : List Nat} (h : PList w 2 p n c Ns) : PList w 200 p n c Ns :=
  ⟨h.len, h.cap, h.max, h.nil, fun h0 => let ⟨b, off, h1, h2, h3⟩ := h.at_ h0; ⟨b, off, h1, h2, fun i N hN => let ⟨q, m, d, k1, k2, k3⟩ := h3 i N hN; ⟨q, m, d, k1, k2, B2_B200 k3⟩⟩⟩
theorem PSteps.up {w : World} {p : Option Addr} {n c : Nat} {l : List StepN} (h : PSteps w 2 p n c l) : PSteps w 200 p n c l :=
  ⟨h.len, h.cap, h.max, h.nil, fun h0 => let ⟨b, off, h1, h2, h3⟩ := h.at_ h0; ⟨b, off, h1, h2, fun i s hs =>
    let ⟨q0, m0, d0, q1, m1, d1, q2, m2, d2, k0, k1, k2, k3, k4, k5, k6, k7⟩ := h3 i s hs; ⟨q0, m0, d0, q1, m1, d1, q2, m2, d2, k0, k1, k2, k3, B2_B200 k4, k5, B2_B200 k6, k7.up⟩⟩⟩
theorem blen_u64 {n : Nat} (h : U64 n) : blen n ≤ 64 := (blen_le n 64).2 h
theorem not_long {l : List StepN} (h : ∀ s ∈ l, U64 s.n ∧ U64 s.base ∧ ∀ x ∈ s.ps, U64 x) : ¬ ∃ s ∈ l, TooLong s := by
  rintro ⟨s, hs, hl⟩
  obtain ⟨h1, h2, h3⟩ := h s hs
  rcases hl with hl | hl | ⟨q, hq, hl⟩
  · have := blen_u64 h1; omega
  · have := blen_u64 h2; omega
  · have := blen_u64 (h3 q hq); omega

set_option maxHeartbeats 4000000 in
set_option maxRecDepth 100000 in
open Classical in
theorem checks_calls (hs : SmallDoes) (hh : HoldsDoes) (hk : CheckDoes) (hp : PrimeDoes) (w : World) (p : Option Addr) (m c n : Nat) (l : List StepN) (h : ClaimsIn w p m c l) (hn : n < 18446744073709551616) :
    Calls Try.prog 3 #[.slice p m c, .int .u64 n] w fun e w' => e = .returned (.bool true) ∧ Below w.heap.size w w' := by
  have HSm : Hold _ := ⟨hs⟩
  have HH : Hold _ := ⟨hh⟩
  have HK : Hold _ := ⟨hk⟩
  have HP : Hold _ := ⟨hp⟩
  have HC : Hold _ := ⟨h⟩
  have HN : Hold _ := ⟨hn⟩
  have HLn : Hold _ := ⟨h.len⟩
  clear hs hh hk hp h hn
  by_cases hf : FewP l
  · have HF : Hold _ := ⟨hf⟩
    have hl8 := hf.1
    have hmm : m ≤ 8 := by have := HLn.out; omega
    clear hf
    go_enter Try.func3, Try.ntmps3
    go_wp2_with fail
    refine (lives8_calls HH.out w).mono ?_
    rintro en w1 ⟨rfl, b1⟩
    have B1 : Hold _ := ⟨b1⟩
    clear b1
    go_wp2_with fail
    refine (few8_calls w1 p m c l (HC.out.below B1.out)).mono ?_
    rintro en w2 ⟨rfl, b2⟩
    rw [@decide_eq_true _ (Classical.propDecidable _) HF.out]
    have B2 : Hold _ := ⟨bstep B1.out b2⟩
    clear b2

    go_wp2_with fail
    refine (chain_calls w2 p m c l (HC.out.below B2.out) HF.out).mono ?_
    rintro en w3 ⟨p1, c1, p2, c2, rfl, h1, h2, b3⟩
    have B3 : Hold _ := ⟨bstep B2.out b3⟩
    have HS1 : Hold _ := ⟨h1⟩
    have HD1 : Hold _ := ⟨h2⟩
    clear b3 h1 h2
    go_wp2_with fail
    refine (HK.out w3 p1 l.length c1 l HS1.out.up (by omega) (fun s hs => by have := HF.out.2 s hs; omega) (fun s hs _ => by have := HC.out.u64 s hs; exact this)).mono ?_
    rintro en w4 ⟨rfl, b4⟩
    rw [if_neg (not_long HC.out.u64)]
    have B4 : Hold _ := ⟨bstep B3.out b4⟩
    have HS4 : Hold _ := ⟨HS1.out.below b4⟩
    have HD4 : Hold _ := ⟨HD1.out.below b4⟩
    clear b4
    have HDL : Hold (∀ s ∈ l, blen s.n ≤ 1100 ∧ blen s.base ≤ 1100 ∧ (∀ q ∈ s.ps, blen q ≤ 1100) ∧ s.ps.length ≤ 1000000) := ⟨fun s hs => by
      obtain ⟨u1, u2, u3⟩ := HC.out.u64 s hs
      exact ⟨by have := blen_u64 u1; omega, by have := blen_u64 u2; omega, fun q hq => by have := blen_u64 (u3 q hq); omega, by have := HF.out.2 s hs; omega⟩⟩
    by_cases hch : ChainP [] l
    · have HCH : Hold (decide (ChainP [] l) = true) := ⟨decide_eq_true hch⟩
      rw [if_pos hch]
      clear hch
      go_wp2_with fail
      refine (dcheck_calls w4 p2 l.length c2 l HD4.out (by omega) HDL.out).mono ?_
      rintro en w5 ⟨rfl, b5⟩
      rw [HCH.out]
      have B5 : Hold _ := ⟨bstep B4.out b5⟩
      have HS5 : Hold _ := ⟨HS4.out.below b5⟩
      clear b5
      go_wp2
      go_loopw [9, 32] (fun bv iv wr => ∃ k : Nat, k ≤ m ∧ iv = .int .i64 k ∧ bv = .bool ((l.take k).any fun s => s.n == n) ∧ Hold (Below w5.heap.size w5 wr)) (fun _ iv _ => m - (intOf iv).toNat)
      case atStart => exact ⟨0, by omega, rfl, by simp, ⟨Below.refl _ _⟩⟩
      case round =>
        obtain ⟨k, hk, rfl, rfl, HBr⟩ := hrel
        by_cases hkm : k < m
        · obtain ⟨S, hSk⟩ : ∃ s, l[k]? = some s := ⟨l[k]'(by rw [← HLn.out]; exact hkm), List.getElem?_eq_getElem _⟩
          have HB5r : Hold _ := ⟨bstep B5.out HBr.out⟩
          obtain ⟨b, off, rfl, hb, hc⟩ := (HC.out.below HB5r.out).at_ (by omega)
          obtain ⟨q, z, d, k0, k1, k2, k3⟩ := hc k S hSk
          have HST : Hold (((l.take (k + 1)).any fun s => s.n == n) = (((l.take k).any fun s => s.n == n) || (S.n == n))) := ⟨by rw [snoc_take hSk, List.any_append]; simp⟩
          obtain ⟨D, hD⟩ : ∃ D, ((l.take k).any fun s => s.n == n) = D := ⟨_, rfl⟩
          rw [hD] at HST
          rw [hD]
          have HBa : Hold (Below w5.heap.size w5 (wr.alloc (.cells #[.int .u64 (S.n : Nat), .int .u64 (S.base : Nat), .slice q z d] 35))) := ⟨HBr.out.alloc HBr.out.size _⟩
          clear hc hSk k3 hD
          cases D with
          | true =>
            have HST2 : Hold _ := ⟨by have := HST.out; rwa [Bool.true_or] at this⟩
            clear HST
            go_wp2
            go_roundw
            case rel => exact ⟨k + 1, by omega, by go_num, by rw [HST2.out], HBa⟩
            case measure => simp [intOf]; omega
          | false =>
            have HST2 : Hold _ := ⟨by have := HST.out; rwa [Bool.false_or] at this⟩
            clear HST
            have heq : ((S.n : Int) == (n : Int)) = (S.n == n) := by
              by_cases hx : S.n = n
              · simp [hx]
              · have h2 : ¬ (S.n : Int) = n := by omega
                rw [beq_eq_false_iff_ne.2 h2, beq_eq_false_iff_ne.2 hx]
            obtain ⟨Q, hQ⟩ : ∃ Q, (S.n == n) = Q := ⟨_, rfl⟩
            rw [hQ] at HST2 heq
            clear hQ
            go_wp2
            go_roundw
            case rel => exact ⟨k + 1, by omega, by go_num, by rw [HST2.out], HBa⟩
            case measure => simp [intOf]; omega
        · obtain rfl : k = m := by omega
          have htk : l.take k = l := List.take_of_length_le (by rw [← HLn.out]; exact Nat.le_refl _)
          rw [htk]
          have B6 : Hold _ := ⟨bstep B5.out HBr.out⟩
          have HS6 : Hold _ := ⟨HS5.out.below HBr.out⟩
          obtain ⟨IN, hIN⟩ : ∃ D, (l.any fun s => s.n == n) = D := ⟨_, rfl⟩
          rw [hIN]
          have HIN : Hold _ := ⟨hIN⟩
          clear htk hIN
          go_wp2_with fail
          refine (small_calls n wr HN.out).mono ?_
          rintro en w6 ⟨q6, d6, r6, rfl, h6, b6, _⟩
          have H6 : Hold _ := ⟨h6⟩
          have HB6 : Hold _ := ⟨bstep B6.out b6⟩
          have HS6' : Hold _ := ⟨HS6.out.below b6⟩
          clear b6 h6
          go_wp2_with fail
          refine (dsmall_calls w6 _ _ _ n H6.out).mono ?_
          rintro en w7 ⟨rfl, b7⟩
          have B7 : Hold _ := ⟨bstep HB6.out b7⟩
          have HS7 : Hold _ := ⟨HS6'.out.below b7⟩
          clear b7
          have HPV : Hold (decide (SmallP n ∨ (ChainP [] l ∧ ∃ s ∈ l, s.n = n)) = (decide (SmallP n) || (true && IN))) := ⟨by
            have e1 : (∃ s ∈ l, s.n = n) ↔ IN = true := by rw [← HIN.out]; simp
            have e2 : ChainP [] l ↔ true = true := by rw [← decide_eq_true_iff (p := ChainP [] l), HCH.out]
            rw [Bool.eq_iff_iff, decide_eq_true_iff, Bool.or_eq_true, Bool.and_eq_true, decide_eq_true_iff, e1, e2]⟩
          obtain ⟨SM, hSM⟩ : ∃ D, decide (SmallP n) = D := ⟨_, rfl⟩
          rw [hSM] at HPV
          rw [hSM]
          have HSV : Hold _ := ⟨hSM⟩
          clear hSM
          cases SM <;> cases IN
          · go_wp2_with fail
            refine (nat_fit n w7 HN.out).mono ?_
            rintro en w8 ⟨q8, d8, r8, rfl, h8, b8⟩
            have H8 : Hold _ := ⟨h8⟩
            have B8 : Hold _ := ⟨bstep B7.out b8⟩
            have HS8 : Hold _ := ⟨HS7.out.below b8⟩
            clear b8 h8
            go_wp2_with fail
            refine (HP.out w8 n _ _ _ _ l (Fit.of H8.out (lt_B2 HN.out)) HS8.out (by omega) (fun s hs => by have := HF.out.2 s hs; omega)).mono ?_
            rintro en w9 ⟨rfl, b9⟩
            rw [HPV.out]
            have B9 : Hold _ := ⟨bstep B8.out b9⟩
            clear b9
            go_wp2_with fail
            refine (nat_fit n w9 HN.out).mono ?_
            rintro en wa ⟨qa, da, ra, rfl, ha, ba⟩
            have HA : Hold _ := ⟨ha⟩
            have BA : Hold _ := ⟨bstep B9.out ba⟩
            clear ba ha
            go_wp2_with fail
            refine (HSm.out wa n 2 _ (Fit.of HA.out (lt_B2 HN.out)) (by decide)).mono ?_
            rintro en wb ⟨rfl, bb⟩
            rw [HSV.out]
            have BB : Hold _ := ⟨bstep BA.out bb⟩
            clear bb
            go_wp2
            go_ret
            exact ⟨rfl, BB.out⟩
          · go_wp2_with fail
            refine (nat_fit n w7 HN.out).mono ?_
            rintro en w8 ⟨q8, d8, r8, rfl, h8, b8⟩
            have H8 : Hold _ := ⟨h8⟩
            have B8 : Hold _ := ⟨bstep B7.out b8⟩
            have HS8 : Hold _ := ⟨HS7.out.below b8⟩
            clear b8 h8
            go_wp2_with fail
            refine (HP.out w8 n _ _ _ _ l (Fit.of H8.out (lt_B2 HN.out)) HS8.out (by omega) (fun s hs => by have := HF.out.2 s hs; omega)).mono ?_
            rintro en w9 ⟨rfl, b9⟩
            rw [HPV.out]
            have B9 : Hold _ := ⟨bstep B8.out b9⟩
            clear b9
            go_wp2_with fail
            refine (nat_fit n w9 HN.out).mono ?_
            rintro en wa ⟨qa, da, ra, rfl, ha, ba⟩
            have HA : Hold _ := ⟨ha⟩
            have BA : Hold _ := ⟨bstep B9.out ba⟩
            clear ba ha
            go_wp2_with fail
            refine (HSm.out wa n 2 _ (Fit.of HA.out (lt_B2 HN.out)) (by decide)).mono ?_
            rintro en wb ⟨rfl, bb⟩
            rw [HSV.out]
            have BB : Hold _ := ⟨bstep BA.out bb⟩
            clear bb
            go_wp2
            go_ret
            exact ⟨rfl, BB.out⟩
          · go_wp2_with fail
            refine (nat_fit n w7 HN.out).mono ?_
            rintro en w8 ⟨q8, d8, r8, rfl, h8, b8⟩
            have H8 : Hold _ := ⟨h8⟩
            have B8 : Hold _ := ⟨bstep B7.out b8⟩
            have HS8 : Hold _ := ⟨HS7.out.below b8⟩
            clear b8 h8
            go_wp2_with fail
            refine (HP.out w8 n _ _ _ _ l (Fit.of H8.out (lt_B2 HN.out)) HS8.out (by omega) (fun s hs => by have := HF.out.2 s hs; omega)).mono ?_
            rintro en w9 ⟨rfl, b9⟩
            rw [HPV.out]
            have B9 : Hold _ := ⟨bstep B8.out b9⟩
            clear b9
            go_wp2_with fail
            refine (nat_fit n w9 HN.out).mono ?_
            rintro en wa ⟨qa, da, ra, rfl, ha, ba⟩
            have HA : Hold _ := ⟨ha⟩
            have BA : Hold _ := ⟨bstep B9.out ba⟩
            clear ba ha
            go_wp2_with fail
            refine (HSm.out wa n 2 _ (Fit.of HA.out (lt_B2 HN.out)) (by decide)).mono ?_
            rintro en wb ⟨rfl, bb⟩
            rw [HSV.out]
            have BB : Hold _ := ⟨bstep BA.out bb⟩
            clear bb
            go_wp2
            go_ret
            exact ⟨rfl, BB.out⟩
          · go_wp2_with fail
            refine (nat_fit n w7 HN.out).mono ?_
            rintro en w8 ⟨q8, d8, r8, rfl, h8, b8⟩
            have H8 : Hold _ := ⟨h8⟩
            have B8 : Hold _ := ⟨bstep B7.out b8⟩
            have HS8 : Hold _ := ⟨HS7.out.below b8⟩
            clear b8 h8
            go_wp2_with fail
            refine (HP.out w8 n _ _ _ _ l (Fit.of H8.out (lt_B2 HN.out)) HS8.out (by omega) (fun s hs => by have := HF.out.2 s hs; omega)).mono ?_
            rintro en w9 ⟨rfl, b9⟩
            rw [HPV.out]
            have B9 : Hold _ := ⟨bstep B8.out b9⟩
            clear b9
            go_wp2_with fail
            refine (nat_fit n w9 HN.out).mono ?_
            rintro en wa ⟨qa, da, ra, rfl, ha, ba⟩
            have HA : Hold _ := ⟨ha⟩
            have BA : Hold _ := ⟨bstep B9.out ba⟩
            clear ba ha
            go_wp2_with fail
            refine (HSm.out wa n 2 _ (Fit.of HA.out (lt_B2 HN.out)) (by decide)).mono ?_
            rintro en wb ⟨rfl, bb⟩
            rw [HSV.out]
            have BB : Hold _ := ⟨bstep BA.out bb⟩
            clear bb
            go_wp2
            go_ret
            exact ⟨rfl, BB.out⟩
    · have HCH : Hold (decide (ChainP [] l) = false) := ⟨decide_eq_false hch⟩
      rw [if_neg hch]
      clear hch
      go_wp2_with fail
      refine (dcheck_calls w4 p2 l.length c2 l HD4.out (by omega) HDL.out).mono ?_
      rintro en w5 ⟨rfl, b5⟩
      rw [HCH.out]
      have B5 : Hold _ := ⟨bstep B4.out b5⟩
      have HS5 : Hold _ := ⟨HS4.out.below b5⟩
      clear b5
      go_wp2
      go_loopw [9, 32] (fun bv iv wr => ∃ k : Nat, k ≤ m ∧ iv = .int .i64 k ∧ bv = .bool ((l.take k).any fun s => s.n == n) ∧ Hold (Below w5.heap.size w5 wr)) (fun _ iv _ => m - (intOf iv).toNat)
      case atStart => exact ⟨0, by omega, rfl, by simp, ⟨Below.refl _ _⟩⟩
      case round =>
        obtain ⟨k, hk, rfl, rfl, HBr⟩ := hrel
        by_cases hkm : k < m
        · obtain ⟨S, hSk⟩ : ∃ s, l[k]? = some s := ⟨l[k]'(by rw [← HLn.out]; exact hkm), List.getElem?_eq_getElem _⟩
          have HB5r : Hold _ := ⟨bstep B5.out HBr.out⟩
          obtain ⟨b, off, rfl, hb, hc⟩ := (HC.out.below HB5r.out).at_ (by omega)
          obtain ⟨q, z, d, k0, k1, k2, k3⟩ := hc k S hSk
          have HST : Hold (((l.take (k + 1)).any fun s => s.n == n) = (((l.take k).any fun s => s.n == n) || (S.n == n))) := ⟨by rw [snoc_take hSk, List.any_append]; simp⟩
          obtain ⟨D, hD⟩ : ∃ D, ((l.take k).any fun s => s.n == n) = D := ⟨_, rfl⟩
          rw [hD] at HST
          rw [hD]
          have HBa : Hold (Below w5.heap.size w5 (wr.alloc (.cells #[.int .u64 (S.n : Nat), .int .u64 (S.base : Nat), .slice q z d] 35))) := ⟨HBr.out.alloc HBr.out.size _⟩
          clear hc hSk k3 hD
          cases D with
          | true =>
            have HST2 : Hold _ := ⟨by have := HST.out; rwa [Bool.true_or] at this⟩
            clear HST
            go_wp2
            go_roundw
            case rel => exact ⟨k + 1, by omega, by go_num, by rw [HST2.out], HBa⟩
            case measure => simp [intOf]; omega
          | false =>
            have HST2 : Hold _ := ⟨by have := HST.out; rwa [Bool.false_or] at this⟩
            clear HST
            have heq : ((S.n : Int) == (n : Int)) = (S.n == n) := by
              by_cases hx : S.n = n
              · simp [hx]
              · have h2 : ¬ (S.n : Int) = n := by omega
                rw [beq_eq_false_iff_ne.2 h2, beq_eq_false_iff_ne.2 hx]
            obtain ⟨Q, hQ⟩ : ∃ Q, (S.n == n) = Q := ⟨_, rfl⟩
            rw [hQ] at HST2 heq
            clear hQ
            go_wp2
            go_roundw
            case rel => exact ⟨k + 1, by omega, by go_num, by rw [HST2.out], HBa⟩
            case measure => simp [intOf]; omega
        · obtain rfl : k = m := by omega
          have htk : l.take k = l := List.take_of_length_le (by rw [← HLn.out]; exact Nat.le_refl _)
          rw [htk]
          have B6 : Hold _ := ⟨bstep B5.out HBr.out⟩
          have HS6 : Hold _ := ⟨HS5.out.below HBr.out⟩
          obtain ⟨IN, hIN⟩ : ∃ D, (l.any fun s => s.n == n) = D := ⟨_, rfl⟩
          rw [hIN]
          have HIN : Hold _ := ⟨hIN⟩
          clear htk hIN
          go_wp2_with fail
          refine (small_calls n wr HN.out).mono ?_
          rintro en w6 ⟨q6, d6, r6, rfl, h6, b6, _⟩
          have H6 : Hold _ := ⟨h6⟩
          have HB6 : Hold _ := ⟨bstep B6.out b6⟩
          have HS6' : Hold _ := ⟨HS6.out.below b6⟩
          clear b6 h6
          go_wp2_with fail
          refine (dsmall_calls w6 _ _ _ n H6.out).mono ?_
          rintro en w7 ⟨rfl, b7⟩
          have B7 : Hold _ := ⟨bstep HB6.out b7⟩
          have HS7 : Hold _ := ⟨HS6'.out.below b7⟩
          clear b7
          have HPV : Hold (decide (SmallP n ∨ (ChainP [] l ∧ ∃ s ∈ l, s.n = n)) = (decide (SmallP n) || (false && IN))) := ⟨by
            have e1 : (∃ s ∈ l, s.n = n) ↔ IN = true := by rw [← HIN.out]; simp
            have e2 : ChainP [] l ↔ false = true := by rw [← decide_eq_true_iff (p := ChainP [] l), HCH.out]
            rw [Bool.eq_iff_iff, decide_eq_true_iff, Bool.or_eq_true, Bool.and_eq_true, decide_eq_true_iff, e1, e2]⟩
          obtain ⟨SM, hSM⟩ : ∃ D, decide (SmallP n) = D := ⟨_, rfl⟩
          rw [hSM] at HPV
          rw [hSM]
          have HSV : Hold _ := ⟨hSM⟩
          clear hSM
          cases SM <;> cases IN
          · go_wp2_with fail
            refine (nat_fit n w7 HN.out).mono ?_
            rintro en w8 ⟨q8, d8, r8, rfl, h8, b8⟩
            have H8 : Hold _ := ⟨h8⟩
            have B8 : Hold _ := ⟨bstep B7.out b8⟩
            have HS8 : Hold _ := ⟨HS7.out.below b8⟩
            clear b8 h8
            go_wp2_with fail
            refine (HP.out w8 n _ _ _ _ l (Fit.of H8.out (lt_B2 HN.out)) HS8.out (by omega) (fun s hs => by have := HF.out.2 s hs; omega)).mono ?_
            rintro en w9 ⟨rfl, b9⟩
            rw [HPV.out]
            have B9 : Hold _ := ⟨bstep B8.out b9⟩
            clear b9
            go_wp2_with fail
            refine (nat_fit n w9 HN.out).mono ?_
            rintro en wa ⟨qa, da, ra, rfl, ha, ba⟩
            have HA : Hold _ := ⟨ha⟩
            have BA : Hold _ := ⟨bstep B9.out ba⟩
            clear ba ha
            go_wp2_with fail
            refine (HSm.out wa n 2 _ (Fit.of HA.out (lt_B2 HN.out)) (by decide)).mono ?_
            rintro en wb ⟨rfl, bb⟩
            rw [HSV.out]
            have BB : Hold _ := ⟨bstep BA.out bb⟩
            clear bb
            go_wp2
            go_ret
            exact ⟨rfl, BB.out⟩
          · go_wp2_with fail
            refine (nat_fit n w7 HN.out).mono ?_
            rintro en w8 ⟨q8, d8, r8, rfl, h8, b8⟩
            have H8 : Hold _ := ⟨h8⟩
            have B8 : Hold _ := ⟨bstep B7.out b8⟩
            have HS8 : Hold _ := ⟨HS7.out.below b8⟩
            clear b8 h8
            go_wp2_with fail
            refine (HP.out w8 n _ _ _ _ l (Fit.of H8.out (lt_B2 HN.out)) HS8.out (by omega) (fun s hs => by have := HF.out.2 s hs; omega)).mono ?_
            rintro en w9 ⟨rfl, b9⟩
            rw [HPV.out]
            have B9 : Hold _ := ⟨bstep B8.out b9⟩
            clear b9
            go_wp2_with fail
            refine (nat_fit n w9 HN.out).mono ?_
            rintro en wa ⟨qa, da, ra, rfl, ha, ba⟩
            have HA : Hold _ := ⟨ha⟩
            have BA : Hold _ := ⟨bstep B9.out ba⟩
            clear ba ha
            go_wp2_with fail
            refine (HSm.out wa n 2 _ (Fit.of HA.out (lt_B2 HN.out)) (by decide)).mono ?_
            rintro en wb ⟨rfl, bb⟩
            rw [HSV.out]
            have BB : Hold _ := ⟨bstep BA.out bb⟩
            clear bb
            go_wp2
            go_ret
            exact ⟨rfl, BB.out⟩
          · go_wp2_with fail
            refine (nat_fit n w7 HN.out).mono ?_
            rintro en w8 ⟨q8, d8, r8, rfl, h8, b8⟩
            have H8 : Hold _ := ⟨h8⟩
            have B8 : Hold _ := ⟨bstep B7.out b8⟩
            have HS8 : Hold _ := ⟨HS7.out.below b8⟩
            clear b8 h8
            go_wp2_with fail
            refine (HP.out w8 n _ _ _ _ l (Fit.of H8.out (lt_B2 HN.out)) HS8.out (by omega) (fun s hs => by have := HF.out.2 s hs; omega)).mono ?_
            rintro en w9 ⟨rfl, b9⟩
            rw [HPV.out]
            have B9 : Hold _ := ⟨bstep B8.out b9⟩
            clear b9
            go_wp2_with fail
            refine (nat_fit n w9 HN.out).mono ?_
            rintro en wa ⟨qa, da, ra, rfl, ha, ba⟩
            have HA : Hold _ := ⟨ha⟩
            have BA : Hold _ := ⟨bstep B9.out ba⟩
            clear ba ha
            go_wp2_with fail
            refine (HSm.out wa n 2 _ (Fit.of HA.out (lt_B2 HN.out)) (by decide)).mono ?_
            rintro en wb ⟨rfl, bb⟩
            rw [HSV.out]
            have BB : Hold _ := ⟨bstep BA.out bb⟩
            clear bb
            go_wp2
            go_ret
            exact ⟨rfl, BB.out⟩
          · go_wp2_with fail
            refine (nat_fit n w7 HN.out).mono ?_
            rintro en w8 ⟨q8, d8, r8, rfl, h8, b8⟩
            have H8 : Hold _ := ⟨h8⟩
            have B8 : Hold _ := ⟨bstep B7.out b8⟩
            have HS8 : Hold _ := ⟨HS7.out.below b8⟩
            clear b8 h8
            go_wp2_with fail
            refine (HP.out w8 n _ _ _ _ l (Fit.of H8.out (lt_B2 HN.out)) HS8.out (by omega) (fun s hs => by have := HF.out.2 s hs; omega)).mono ?_
            rintro en w9 ⟨rfl, b9⟩
            rw [HPV.out]
            have B9 : Hold _ := ⟨bstep B8.out b9⟩
            clear b9
            go_wp2_with fail
            refine (nat_fit n w9 HN.out).mono ?_
            rintro en wa ⟨qa, da, ra, rfl, ha, ba⟩
            have HA : Hold _ := ⟨ha⟩
            have BA : Hold _ := ⟨bstep B9.out ba⟩
            clear ba ha
            go_wp2_with fail
            refine (HSm.out wa n 2 _ (Fit.of HA.out (lt_B2 HN.out)) (by decide)).mono ?_
            rintro en wb ⟨rfl, bb⟩
            rw [HSV.out]
            have BB : Hold _ := ⟨bstep BA.out bb⟩
            clear bb
            go_wp2
            go_ret
            exact ⟨rfl, BB.out⟩
  · go_enter Try.func3, Try.ntmps3
    go_wp2_with fail
    refine (lives8_calls HH.out w).mono ?_
    rintro en w1 ⟨rfl, b1⟩
    have B1 : Hold _ := ⟨b1⟩
    clear b1
    go_wp2_with fail
    refine (few8_calls w1 p m c l (HC.out.below B1.out)).mono ?_
    rintro en w2 ⟨rfl, b2⟩
    rw [@decide_eq_false _ (Classical.propDecidable _) hf]
    have B2 : Hold _ := ⟨bstep B1.out b2⟩
    clear b2

    go_wp2_with fail
    refine (lives8_calls HH.out w2).mono ?_
    rintro en w3 ⟨rfl, b3⟩
    have B3 : Hold _ := ⟨bstep B2.out b3⟩
    clear b3
    go_wp2
    go_ret
    exact ⟨rfl, B3.out⟩

end Go.Proofs.Ytceihmiiapnmnaa
