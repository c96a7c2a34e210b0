/- The document's quotients. -/
import Derived.Test.YtoleblefdmdbjaaRefA
namespace Go.Proofs.Ytoleblefdmdbjaa
open Go Go.RowKit Go.Proofs.Ytoleblefdmdbjaa.Flow

/-- The quotient's bits from m on. -/
def qBits (Q L m : Nat) : List Bool := (List.range L).map fun j => decide (m ≤ j) && bit Q j
theorem qBits_length (Q L m : Nat) : (qBits Q L m).length = L := by simp [qBits]
theorem qBits_get {Q L m j : Nat} (h : j < L) : (qBits Q L m)[j]? = some (decide (m ≤ j) && bit Q j) := by simp [qBits, h]
theorem qBits_zero (Q L : Nat) : qBits Q L 0 = bitsUp Q L := by
  unfold qBits bitsUp
  apply List.map_congr_left
  intro j _
  simp
theorem qBits_top (Q L : Nat) : qBits Q L L = List.replicate L false := by
  apply List.ext_getElem (by simp [qBits])
  intro j h1 h2
  have : j < L := by simpa [qBits] using h1
  simp [qBits, show ¬ L ≤ j by omega]
theorem qBits_set {Q L i : Nat} (_h : i < L) (hb : bit Q i = true) : (qBits Q L (i + 1)).set i true = qBits Q L i := by
  apply List.ext_getElem?
  intro j
  rw [List.getElem?_set]
  rcases Nat.lt_or_ge j L with h1 | h1
  · rw [qBits_get h1, qBits_get h1, qBits_length]
    by_cases hij : i = j
    · subst hij; simp [h1, hb]
    · rw [if_neg hij]
      congr 2
      rw [decide_eq_decide]; omega
  · rw [List.getElem?_eq_none (l := qBits Q L (i + 1)) (by rw [qBits_length]; exact h1), List.getElem?_eq_none (by rw [qBits_length]; exact h1)]
    split <;> first | rfl | (split <;> first | rfl | (rw [qBits_length] at *; omega))
theorem qBits_same {Q L i : Nat} (hb : bit Q i = false) : qBits Q L (i + 1) = qBits Q L i := by
  apply List.map_congr_left
  intro j _
  by_cases hij : j = i
  · subst hij; simp [hb]
  · congr 1
    rw [decide_eq_decide]; omega

/-- The rest, when bits from m on are in. -/
theorem rest_step {N M i : Nat} (hM : 0 < M) : (bit (N / M) i = decide (M ≤ 2 * (N / 2 ^ (i + 1) % M) + (bit N i).toNat)) ∧
    N / 2 ^ i % M = 2 * (N / 2 ^ (i + 1) % M) + (bit N i).toNat - (if M ≤ 2 * (N / 2 ^ (i + 1) % M) + (bit N i).toNat then M else 0) ∧ 2 * (N / 2 ^ (i + 1) % M) + (bit N i).toNat < 2 * M := by
  have e := bit_div N i
  have hb : (bit N i).toNat ≤ 1 := Bool.toNat_le _
  generalize (bit N i).toNat = a at *
  generalize hH : N / 2 ^ (i + 1) = H at *
  have hdm := Nat.div_add_mod H M
  have hm := Nat.mod_lt H hM
  have e2 : N / M / 2 ^ i = N / 2 ^ i / M := by rw [Nat.div_div_eq_div_mul, Nat.div_div_eq_div_mul, Nat.mul_comm]
  generalize H / M = q at *
  generalize H % M = r at *
  have e3 : N / 2 ^ i = M * (2 * q) + (2 * r + a) := by
    rw [e, ← hdm, Nat.mul_add, Nat.mul_left_comm]; omega
  have hlt : 2 * r + a < 2 * M := by omega
  refine ⟨?_, ?_, hlt⟩
  · show decide (N / M / 2 ^ i % 2 = 1) = _
    rw [e2, e3, Nat.mul_add_div hM, decide_eq_decide]
    by_cases h : M ≤ 2 * r + a
    · have : (2 * r + a) / M = 1 := by
        rw [Nat.div_eq_iff hM]; omega
      rw [this]; omega
    · rw [Nat.div_eq_of_lt (by omega)]; omega
  · rw [e3, Nat.mul_add_mod]
    by_cases h : M ≤ 2 * r + a
    · rw [if_pos h, Nat.mod_eq_sub_mod h, Nat.mod_eq_of_lt (by omega)]
    · rw [if_neg h, Nat.mod_eq_of_lt (by omega), Nat.sub_zero]

theorem bits_cons {R : Nat} {b : Bool} : b :: bitsOf R = bitsUp (2 * R + b.toNat) (blen R + 1) := by
  apply List.ext_getElem?
  intro j
  cases j with
  | zero =>
    rw [bitsUp_get (by omega)]
    simp only [List.getElem?_cons_zero, Option.some.injEq]
    unfold bit
    rw [Nat.pow_zero, Nat.div_one]
    cases b <;> simp <;> omega
  | succ j =>
    rw [List.getElem?_cons_succ]
    rcases Nat.lt_or_ge j (blen R) with h | h
    · rw [bitsOf_get h, bitsUp_get (by omega)]
      congr 1
      unfold bit
      rw [Nat.pow_succ', ← Nat.div_div_eq_div_mul, show (2 * R + b.toNat) / 2 = R by have : b.toNat ≤ 1 := Bool.toNat_le _; omega]
    · rw [List.getElem?_eq_none (by rw [bitsOf_length]; exact h), List.getElem?_eq_none (by rw [bitsUp_length]; omega)]

theorem cons_lt {R : Nat} {b : Bool} : 2 * R + b.toNat < 2 ^ (blen R + 1) := by
  have h1 := blen_lt R
  have h2 : b.toNat ≤ 1 := Bool.toNat_le _
  rw [Nat.pow_succ]; omega

end Go.Proofs.Ytoleblefdmdbjaa
