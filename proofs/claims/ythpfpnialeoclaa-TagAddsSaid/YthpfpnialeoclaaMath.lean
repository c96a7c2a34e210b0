/- Numbers, words and bytes: plain laws. -/
import Derived.Test.YthpfpnialeoclaaGen
namespace Go.Proofs.Ythpfpnialeoclaa

/-- The words of a number. -/
def wordsOf (V n : Nat) : List Nat := (List.range n).map fun j => V / B32 j % 4294967296

theorem wordsOf_length (V n : Nat) : (wordsOf V n).length = n := by simp [wordsOf]
theorem wordsOf_get {V n j : Nat} (h : j < n) : (wordsOf V n)[j]? = some (V / B32 j % 4294967296) := by simp [wordsOf, h]
theorem wordsOf_words (V n : Nat) : Words (wordsOf V n) := by
  intro x hx
  simp only [wordsOf, List.mem_map] at hx
  obtain ⟨j, _, rfl⟩ := hx
  exact Nat.mod_lt _ (by omega)

theorem wordsOf_succ (V n : Nat) : wordsOf V (n + 1) = wordsOf V n ++ [V / B32 n % 4294967296] := by
  simp [wordsOf, List.range_succ]

theorem val_wordsOf (V : Nat) : ∀ n, val (wordsOf V n) = V % B32 n
  | 0 => by simp [wordsOf, val, B32_zero, Nat.mod_one]
  | n + 1 => by
    rw [wordsOf_succ, val_snoc, wordsOf_length, val_wordsOf V n, B32_succ, Nat.mul_comm 4294967296, Nat.mod_mul]

theorem val_wordsOf_lt {V n : Nat} (h : V < B32 n) : val (wordsOf V n) = V := by rw [val_wordsOf, Nat.mod_eq_of_lt h]

theorem wordsOf_zero (n : Nat) : wordsOf 0 n = List.replicate n 0 := by
  apply List.ext_getElem (by simp [wordsOf])
  intro i h1 h2
  simp [wordsOf]

theorem B32_add (a b : Nat) : B32 (a + b) = B32 a * B32 b := by unfold B32; rw [Nat.pow_add]

/-- A word of a row is the number's. -/
theorem digit (ws : List Nat) (h : Words ws) : ∀ j, val ws / B32 j % 4294967296 = ws.getD j 0 := by
  induction ws with
  | nil => intro j; simp [val]
  | cons x xs ih =>
    have hx := h x (by simp)
    have hxs : Words xs := fun y hy => h y (by simp [hy])
    intro j
    cases j with
    | zero => simp only [val, B32_zero, Nat.div_one, List.getD_cons_zero]; omega
    | succ j =>
      rw [B32_succ, ← Nat.div_div_eq_div_mul, List.getD_cons_succ, ← ih hxs j]
      congr 2
      simp only [val]; omega

/-- 2^8, so often. -/
def B8 (k : Nat) : Nat := 256 ^ k
theorem B8_zero : B8 0 = 1 := rfl
theorem B8_succ (k : Nat) : B8 (k + 1) = 256 * B8 k := by unfold B8; rw [Nat.pow_succ, Nat.mul_comm]
theorem B8_pos (k : Nat) : 0 < B8 k := Nat.pow_pos (by omega)
theorem B8_add (a b : Nat) : B8 (a + b) = B8 a * B8 b := by unfold B8; rw [Nat.pow_add]
theorem B8_four (k : Nat) : B8 (4 * k) = B32 k := by
  unfold B8 B32; rw [Nat.pow_mul]
theorem B8_mono {a b : Nat} (h : a ≤ b) : B8 a ≤ B8 b := Nat.pow_le_pow_right (by omega) h

theorem B8_pow (k : Nat) : B8 k = 2 ^ (8 * k) := by unfold B8; rw [show (256 : Nat) = 2 ^ 8 from rfl, ← Nat.pow_mul]

/-- Bytes, the lowest first. -/
def le : List Nat → Nat
  | [] => 0
  | x :: xs => x + 256 * le xs

theorem le_append (xs ys : List Nat) : le (xs ++ ys) = le xs + B8 xs.length * le ys := by
  induction xs with
  | nil => simp [le, B8_zero]
  | cons x xs ih =>
    simp only [List.cons_append, le, ih, List.length_cons, B8_succ, Nat.mul_add, Nat.mul_assoc]
    omega

theorem le_snoc (xs : List Nat) (x : Nat) : le (xs ++ [x]) = le xs + B8 xs.length * x := by
  rw [le_append]; simp [le]

theorem Bytes8.lt {xs : List Nat} (h : Bytes8 xs) : le xs < B8 xs.length := by
  induction xs with
  | nil => simp [le, B8_zero]
  | cons x xs ih =>
    have h1 := ih fun y hy => h y (by simp [hy])
    have h2 := h x (by simp)
    simp only [le, List.length_cons, B8_succ]
    omega

theorem le_take_succ (xs : List Nat) (k : Nat) (h : k < xs.length) : le (xs.take (k + 1)) = le (xs.take k) + B8 k * xs.getD k 0 := by
  rw [take_snoc_getD xs k h, le_snoc]; simp [Nat.min_eq_left (Nat.le_of_lt h)]

/-- A byte put into the words. -/
theorem wordsOf_or {V n k x : Nat} (hV : V < B8 k) (hx : x < 256) :
    (wordsOf V n).set (k / 4) (V / B32 (k / 4) % 4294967296 + x * B8 (k % 4)) = wordsOf (V + B8 k * x) n ∧ V / B32 (k / 4) % 4294967296 < B8 (k % 4) ∧ V / B32 (k / 4) % 4294967296 + x * B8 (k % 4) < 4294967296 := by
  obtain ⟨q, r, hkq, hr, hq, hr'⟩ : ∃ q r, k = 4 * q + r ∧ r < 4 ∧ k / 4 = q ∧ k % 4 = r := ⟨k / 4, k % 4, by omega, by omega, rfl, rfl⟩
  rw [hq, hr']
  have hbk : B8 k = B32 q * B8 r := by rw [hkq, B8_add, B8_four]
  have hd : V / B32 q < B8 r := by
    rw [Nat.div_lt_iff_lt_mul (B32_pos q), Nat.mul_comm, ← hbk]; exact hV
  have hb4 : 256 * B8 r ≤ 4294967296 := by
    have : B8 (r + 1) ≤ B8 4 := B8_mono (by omega)
    rw [B8_succ] at this
    exact this
  have hb5 : B8 r ≤ 4294967296 := by have := B8_pos r; omega
  have hdm : V / B32 q % 4294967296 = V / B32 q := Nat.mod_eq_of_lt (by omega)
  have hxb : x * B8 r + B8 r ≤ 256 * B8 r := by
    have := Nat.mul_le_mul_right (B8 r) (show x + 1 ≤ 256 by omega)
    rw [Nat.add_mul, Nat.one_mul] at this
    exact this
  rw [hdm]
  have e1 : V + B8 k * x = V + B32 q * (B8 r * x) := by rw [hbk, Nat.mul_assoc]
  have hcm : B8 r * x = x * B8 r := Nat.mul_comm _ _
  refine ⟨?_, hd, by omega⟩
  apply List.ext_getElem (by simp [wordsOf])
  intro j h1 h2
  simp only [List.length_set, wordsOf_length] at h1
  rw [List.getElem_set]
  simp only [wordsOf, List.getElem_map, List.getElem_range]
  rw [e1]
  by_cases hqj : q = j
  · subst hqj
    rw [if_pos rfl, Nat.add_mul_div_left _ _ (B32_pos q), Nat.mod_eq_of_lt (by omega)]
    omega
  · rw [if_neg hqj]
    rcases Nat.lt_or_gt_of_ne hqj with hlt | hgt
    · -- above: both are nought
      have hb : B32 (q + 1) ≤ B32 j := B32_le (by omega)
      rw [B32_succ] at hb
      have h3 : V < B32 j := by
        have : B32 q * B8 r ≤ B32 q * 4294967296 := Nat.mul_le_mul_left _ hb5
        rw [Nat.mul_comm _ 4294967296] at this
        omega
      have h4 : V + B32 q * (B8 r * x) < B32 j := by
        have h5 : V < B32 q * B8 r := by rw [← hbk]; exact hV
        have h6 : B32 q * (B8 r * x) + B32 q * B8 r ≤ B32 q * 4294967296 := by
          rw [← Nat.mul_add]; exact Nat.mul_le_mul_left _ (by omega)
        rw [Nat.mul_comm _ 4294967296] at h6
        omega
      rw [Nat.div_eq_of_lt h3, Nat.div_eq_of_lt h4]
    · have hb : B32 q = B32 j * (4294967296 * B32 (q - j - 1)) := by
        rw [← B32_succ, ← B32_add]; congr 1; omega
      rw [hb, Nat.mul_assoc, Nat.add_mul_div_left _ _ (B32_pos j), Nat.mul_assoc 4294967296, Nat.add_mul_mod_self_left]
where
  B32_le {a b : Nat} (h : a ≤ b) : B32 a ≤ B32 b := Nat.pow_le_pow_right (by omega) h

end Go.Proofs.Ythpfpnialeoclaa
