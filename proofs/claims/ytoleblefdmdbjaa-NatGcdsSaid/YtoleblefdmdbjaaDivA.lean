/- Of long division: numbers alone. -/
import Derived.Test.YtoleblefdmdbjaaNatN
import Derived.Test.YtoleblefdmdbjaaNatG
namespace Go.Proofs.Ytoleblefdmdbjaa
open Go Go.RowKit Go.Proofs.Ytoleblefdmdbjaa.Flow

/-- What is known of a guess: 'f', 's' the divisor's highest words, 'r2', 'r1', 'r0' those of the rest, 'P' what stands below. -/
structure Guess (f s r2 r1 r0 P D R : Nat) : Prop where
  f1 : 2147483648 ≤ f
  f2 : f < 4294967296
  s1 : s < 4294967296
  r21 : r2 < 4294967296
  r11 : r1 < 4294967296
  r01 : r0 < 4294967296
  D1 : (f * 4294967296 + s) * P ≤ D
  D2 : D < (f * 4294967296 + s + 1) * P
  R1 : ((r2 * 4294967296 + r1) * 4294967296 + r0) * P ≤ R
  R2 : R < ((r2 * 4294967296 + r1) * 4294967296 + r0 + 1) * P
  RD : R < D * 4294967296

theorem Guess.P0 {f s r2 r1 r0 P D R : Nat} (h : Guess f s r2 r1 r0 P D R) : 0 < P := by
  rcases Nat.eq_zero_or_pos P with h0 | h0
  · have := h.D2; rw [h0, Nat.mul_zero] at this; omega
  · exact h0
theorem Guess.D0 {f s r2 r1 r0 P D R : Nat} (h : Guess f s r2 r1 r0 P D R) : 0 < D := by
  have := h.RD
  rcases Nat.eq_zero_or_pos D with h0 | h0
  · rw [h0, Nat.zero_mul] at this; omega
  · exact h0

theorem Guess.high {f s r2 r1 r0 P D R : Nat} (h : Guess f s r2 r1 r0 P D R) : r2 ≤ f := by
  rcases Nat.lt_or_ge f r2 with h1 | h1
  · exfalso
    obtain ⟨B, hB⟩ : ∃ B, 4294967296 = B := ⟨_, rfl⟩
    have a1 := h.R1
    have a2 := h.D2
    have a3 := h.RD
    have a4 := h.s1
    rw [hB] at a1 a2 a3 a4
    have c1 : (f + 1) * B * B ≤ (r2 * B + r1) * B + r0 := by
      have := Nat.mul_le_mul_right B (Nat.mul_le_mul_right B (Nat.succ_le_of_lt h1))
      simp only [Nat.succ_eq_add_one] at this
      refine Nat.le_trans this ?_
      rw [Nat.add_mul (r2 * B) r1 B]; omega
    have c2 : (f * B + s + 1) * B ≤ (f + 1) * B * B := by
      refine Nat.mul_le_mul_right B ?_
      rw [Nat.add_mul, Nat.one_mul]; omega
    have e1 := Nat.le_trans (Nat.mul_le_mul_right P c1) a1
    have e2 := Nat.mul_le_mul_right P c2
    have e3 := Nat.mul_le_mul_right B (Nat.le_of_lt a2)
    rw [Nat.mul_right_comm] at e3
    omega
  · exact h1

theorem Guess.q_lt {f s r2 r1 r0 P D R : Nat} (h : Guess f s r2 r1 r0 P D R) : R / D < 4294967296 := by
  rw [Nat.div_lt_iff_lt_mul h.D0, Nat.mul_comm]; exact h.RD

theorem Guess.first {f s r2 r1 r0 P D R : Nat} (h : Guess f s r2 r1 r0 P D R) : R / D ≤ (r2 * 4294967296 + r1) / f := by
  have hf : 0 < f := by have := h.f1; omega
  rw [Nat.le_div_iff_mul_le hf]
  have hq := Nat.div_mul_le_self R D
  have hP := h.P0
  have h1 : R / D * f * 4294967296 * P ≤ R / D * D := by
    rw [Nat.mul_assoc, Nat.mul_assoc]
    refine Nat.mul_le_mul_left _ ?_
    refine Nat.le_trans ?_ h.D1
    rw [← Nat.mul_assoc]
    exact Nat.mul_le_mul_right P (by omega)
  have h2 : R / D * f * 4294967296 * P < ((r2 * 4294967296 + r1) * 4294967296 + r0 + 1) * P := Nat.lt_of_le_of_lt (Nat.le_trans h1 hq) h.R2
  have h3 := Nat.lt_of_mul_lt_mul_right h2
  have := h.r01
  omega

/-- The state: 'a' often, 'l' left. -/
structure GuessSt (f s r2 r1 r0 P D R a l : Nat) : Prop where
  eq : a * f + l = r2 * 4294967296 + r1
  le : R / D ≤ a
  left : l < 4294967296

theorem GuessSt.start {f s r2 r1 r0 P D R : Nat} (h : Guess f s r2 r1 r0 P D R) : GuessSt f s r2 r1 r0 P D R ((r2 * 4294967296 + r1) / f) ((r2 * 4294967296 + r1) % f) := by
  have hf : 0 < f := by have := h.f1; omega
  refine ⟨?_, h.first, ?_⟩
  · rw [Nat.mul_comm]; exact Nat.div_add_mod _ _
  · have := Nat.mod_lt (r2 * 4294967296 + r1) hf
    have := h.f2; omega

theorem GuessSt.bound {f s r2 r1 r0 P D R a l : Nat} (h : Guess f s r2 r1 r0 P D R) (k : GuessSt f s r2 r1 r0 P D R a l) : a ≤ 4294967297 := by
  rcases Nat.lt_or_ge 4294967297 a with h1 | h1
  · exfalso
    have h2 : 4294967298 * f ≤ a * f := Nat.mul_le_mul_right f h1
    have := k.eq
    have := h.high
    have := h.f1
    have := h.r11
    omega
  · exact h1

theorem Guess.upper {f s r2 r1 r0 P D R a l : Nat} (h : Guess f s r2 r1 r0 P D R) (ha : a < 4294967296) (he : a * f + l = r2 * 4294967296 + r1) (ht : a * s ≤ l * 4294967296 + r0) : a ≤ R / D + 1 := by
  have hP := h.P0
  have hD := h.D0
  have h1 : a * (f * 4294967296 + s) ≤ (r2 * 4294967296 + r1) * 4294967296 + r0 := by
    rw [Nat.mul_add, ← Nat.mul_assoc]
    omega
  have h2 : a * (f * 4294967296 + s) * P ≤ R := Nat.le_trans (Nat.mul_le_mul_right P h1) h.R1
  have h3 : a * D ≤ a * (f * 4294967296 + s) * P + a * P := by
    have e := Nat.mul_le_mul_left a (Nat.le_of_lt h.D2)
    rw [Nat.add_mul (f * 4294967296 + s) 1 P, Nat.one_mul, Nat.mul_add, ← Nat.mul_assoc] at e
    exact e
  have h4 : a * P < D := by
    refine Nat.lt_of_lt_of_le ?_ h.D1
    exact Nat.mul_lt_mul_of_pos_right (by have := h.f1; omega) hP
  have h5 : R < (R / D + 1) * D := by
    have := Nat.div_add_mod R D
    have := Nat.mod_lt R hD
    rw [Nat.add_mul, Nat.one_mul, Nat.mul_comm]; omega
  rcases Nat.lt_or_ge (R / D + 1) a with h6 | h6
  · exfalso
    have h7 := Nat.mul_le_mul_right D (Nat.succ_le_of_lt h6)
    rw [Nat.succ_eq_add_one, Nat.add_mul (R / D + 1) 1 D, Nat.one_mul] at h7
    omega
  · exact h6

theorem Guess.lower {f s r2 r1 r0 P D R a l : Nat} (h : Guess f s r2 r1 r0 P D R) (he : a * f + l = r2 * 4294967296 + r1) (ht : l * 4294967296 + r0 < a * s) : R / D < a := by
  have hD := h.D0
  have h1 : (r2 * 4294967296 + r1) * 4294967296 + r0 + 1 ≤ a * (f * 4294967296 + s) := by
    rw [Nat.mul_add, ← Nat.mul_assoc]
    omega
  have h2 : ((r2 * 4294967296 + r1) * 4294967296 + r0 + 1) * P ≤ a * D := by
    refine Nat.le_trans (Nat.mul_le_mul_right P h1) ?_
    rw [Nat.mul_assoc]
    exact Nat.mul_le_mul_left a h.D1
  rw [Nat.div_lt_iff_lt_mul hD]
  exact Nat.lt_of_lt_of_le h.R2 h2

/-- The test says: no longer. -/
theorem GuessSt.stop {f s r2 r1 r0 P D R a l : Nat} (h : Guess f s r2 r1 r0 P D R) (k : GuessSt f s r2 r1 r0 P D R a l) (ha : a < 4294967296) (ht : a * s ≤ l * 4294967296 + r0) :
    R / D ≤ a ∧ a ≤ R / D + 1 := ⟨k.le, h.upper ha k.eq ht⟩

/-- It says: one less. -/
theorem GuessSt.less {f s r2 r1 r0 P D R a l : Nat} (h : Guess f s r2 r1 r0 P D R) (k : GuessSt f s r2 r1 r0 P D R a l) (ht : 4294967295 < a ∨ l * 4294967296 + r0 < a * s) :
    1 ≤ a ∧ (a - 1) * f + (l + f) = r2 * 4294967296 + r1 ∧ R / D ≤ a - 1 := by
  have h1 : R / D < a := by
    rcases ht with h2 | h2
    · have := h.q_lt
      generalize R / D = q at *
      omega
    · exact h.lower k.eq h2
  generalize R / D = q at *
  refine ⟨by omega, ?_, by omega⟩
  obtain ⟨b, rfl⟩ : ∃ b, a = b + 1 := ⟨a - 1, by omega⟩
  have := k.eq
  rw [Nat.add_mul, Nat.one_mul] at this
  rw [Nat.add_sub_cancel]
  omega

theorem GuessSt.next {f s r2 r1 r0 P D R a l : Nat} (h : Guess f s r2 r1 r0 P D R) (k : GuessSt f s r2 r1 r0 P D R a l) (ht : 4294967295 < a ∨ l * 4294967296 + r0 < a * s) (hl : l + f < 4294967296) :
    GuessSt f s r2 r1 r0 P D R (a - 1) (l + f) :=
  let ⟨_, h2, h3⟩ := k.less h ht
  ⟨h2, h3, hl⟩

theorem GuessSt.brk {f s r2 r1 r0 P D R a l : Nat} (h : Guess f s r2 r1 r0 P D R) (k : GuessSt f s r2 r1 r0 P D R a l) (ht : 4294967295 < a ∨ l * 4294967296 + r0 < a * s) (hl : 4294967296 ≤ l + f) :
    a - 1 < 4294967296 ∧ R / D ≤ a - 1 ∧ a - 1 ≤ R / D + 1 := by
  obtain ⟨h1, h2, h3⟩ := k.less h ht
  have h4 : a - 1 < 4294967296 := by
    rcases Nat.lt_or_ge (a - 1) 4294967296 with h5 | h5
    · exact h5
    · exfalso
      have h6 := Nat.mul_le_mul_right f h5
      have := h.high
      have := h.r11
      omega
  refine ⟨h4, h3, h.upper h4 h2 ?_⟩
  have h7 : (a - 1) * s ≤ 4294967296 * 4294967296 := Nat.mul_le_mul (by omega) (Nat.le_of_lt h.s1)
  omega

/-- Products taken away: the words, and what is owed. -/
def subGo (W X : List Nat) (t : Nat) : Nat → List Nat × Nat
  | 0 => ([], 0)
  | k + 1 => ((subGo W X t k).1 ++ [(X.getD k 0 + 4294967296 - ((subGo W X t k).2 + W.getD k 0 * t) % 4294967296) % 4294967296],
      ((subGo W X t k).2 + W.getD k 0 * t) / 4294967296 + if X.getD k 0 < ((subGo W X t k).2 + W.getD k 0 * t) % 4294967296 then 1 else 0)

structure SubSt (W X : List Nat) (t k : Nat) (S : List Nat) (y : Nat) : Prop where
  len : S.length = k
  words : Words S
  owed : y < 4294967296
  eq : val (X.take k) + B32 k * y = val S + t * val (W.take k)

theorem subGo_st {W X : List Nat} {t : Nat} (hW : Words W) (hX : Words X) (ht : t < 4294967296) : ∀ k, SubSt W X t k (subGo W X t k).1 (subGo W X t k).2
  | 0 => ⟨rfl, Words.nil, by simp [subGo], by simp [subGo, val]⟩
  | k + 1 => by
    have h := subGo_st hW hX ht k
    have hz := hX.get k
    have hx := hW.get k
    have h4 := h.eq
    simp only [subGo]
    generalize (subGo W X t k).1 = S at *
    generalize (subGo W X t k).2 = y at *
    have e1 := val_take_succ' X k
    have e2 := val_take_succ' W k
    have hy := h.owed
    generalize X.getD k 0 = z at *
    generalize W.getD k 0 = x at *
    have hp := mul_bound hx ht
    obtain ⟨p, hpp⟩ : ∃ p, y + x * t = p := ⟨_, rfl⟩
    rw [hpp]
    have hdm := Nat.div_add_mod p 4294967296
    have hm := Nat.mod_lt p (show 0 < 4294967296 by omega)
    have hpl : p ≤ 18446744069414584320 := by omega
    obtain ⟨c, hc⟩ : ∃ c, (if z < p % 4294967296 then 1 else 0) = c := ⟨_, rfl⟩
    rw [hc]
    have hs : z + 4294967296 * (p / 4294967296 + c) = (z + 4294967296 - p % 4294967296) % 4294967296 + p := by
      by_cases hlt : z < p % 4294967296
      · rw [if_pos hlt] at hc; omega
      · rw [if_neg hlt] at hc; omega
    have hc1 : p / 4294967296 + c < 4294967296 := by
      by_cases hlt : z < p % 4294967296
      · rw [if_pos hlt] at hc; omega
      · rw [if_neg hlt] at hc; omega
    obtain ⟨r, hr⟩ : ∃ r, (z + 4294967296 - p % 4294967296) % 4294967296 = r := ⟨_, rfl⟩
    rw [hr] at hs ⊢
    have hr4 : r < 4294967296 := by omega
    refine ⟨by simp [h.len], h.words.snoc hr4, hc1, ?_⟩
    rw [e1, e2, val_snoc, h.len, B32_succ]
    have e3 : 4294967296 * B32 k * (p / 4294967296 + c) = B32 k * (4294967296 * (p / 4294967296 + c)) := by rw [Nat.mul_comm 4294967296 (B32 k), Nat.mul_assoc]
    have e4 : B32 k * z + B32 k * (4294967296 * (p / 4294967296 + c)) = B32 k * r + B32 k * p := by rw [← Nat.mul_add, hs, Nat.mul_add]
    have e5 : B32 k * p = B32 k * y + t * (B32 k * x) := by rw [← hpp, Nat.mul_add]; congr 1; ac_rfl
    rw [Nat.mul_add t, e3]
    omega

/-- What a row of words of so many is. -/
theorem eq_wordsOf {L : List Nat} {V n : Nat} (hl : L.length = n) (hw : Words L) (hv : val L = V) : L = wordsOf V n := by
  apply List.ext_getElem?
  intro i
  rcases Nat.lt_or_ge i n with h | h
  · rw [wordsOf_get h, ← hv, digit L hw i, List.getD_eq_getElem?_getD, List.getElem?_eq_getElem (by omega)]
    rfl
  · rw [List.getElem?_eq_none (by omega), List.getElem?_eq_none (by rw [wordsOf_length]; exact h)]

/-- One digit: the guess was right, or once more. -/
theorem digit_right {R D top y Xd S d q : Nat} (hR : R = Xd + B32 d * top) (hq : q = R / D) (hS : Xd + B32 d * y = S + q * D) (hSl : S < B32 d) (hD : 0 < D) (hDd : D ≤ B32 d) : y = top ∧ S = R % D := by
  have h1 := Nat.div_add_mod R D
  have h2 := Nat.mod_lt R hD
  rw [← hq, Nat.mul_comm D q] at h1
  have h3 : S + B32 d * top = R % D + B32 d * y := by omega
  have h4 : y = top := by
    rcases Nat.lt_trichotomy y top with h | h | h
    · have := Nat.mul_le_mul_left (B32 d) (Nat.succ_le_of_lt h)
      rw [Nat.succ_eq_add_one, Nat.mul_add, Nat.mul_one] at this
      omega
    · exact h
    · have := Nat.mul_le_mul_left (B32 d) (Nat.succ_le_of_lt h)
      rw [Nat.succ_eq_add_one, Nat.mul_add, Nat.mul_one] at this
      omega
  subst h4
  exact ⟨rfl, by omega⟩

theorem digit_over {R D top y Xd S d q : Nat} (hR : R = Xd + B32 d * top) (hq : q = R / D + 1) (hS : Xd + B32 d * y = S + q * D) (hSl : S < B32 d) (hD : 0 < D) (hDd : D ≤ B32 d) : y = top + 1 ∧ S + D = R % D + B32 d := by
  have h1 := Nat.div_add_mod R D
  have h2 := Nat.mod_lt R hD
  rw [hq, Nat.add_mul, Nat.one_mul, Nat.mul_comm (R / D) D] at hS
  have h3 : S + D + B32 d * top = R % D + B32 d * y := by omega
  have h4 : y = top + 1 := by
    rcases Nat.lt_trichotomy y (top + 1) with h | h | h
    · have := Nat.mul_le_mul_left (B32 d) (Nat.le_of_lt_succ h)
      omega
    · exact h
    · have := Nat.mul_le_mul_left (B32 d) (Nat.succ_le_of_lt h)
      rw [Nat.succ_eq_add_one, Nat.mul_add, Nat.mul_one, Nat.mul_add, Nat.mul_one] at this
      omega
  subst h4
  rw [Nat.mul_add, Nat.mul_one] at h3
  exact ⟨rfl, by omega⟩

end Go.Proofs.Ytoleblefdmdbjaa
