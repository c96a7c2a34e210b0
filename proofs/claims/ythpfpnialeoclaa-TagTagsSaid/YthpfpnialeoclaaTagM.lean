/- The tag over numbers. -/
import Derived.Test.YthpfpnialeoclaaMath
namespace Go.Proofs.Ythpfpnialeoclaa
open Go Go.RowKit

/-- The four highest bits of some bytes, the two lowest of others, taken as 0. -/
def low4 (r is : List Nat) : List Nat := is.foldl (fun r i => r.set i (r.getD i 0 % 16)) r
def high6 (r is : List Nat) : List Nat := is.foldl (fun r i => r.set i (r.getD i 0 / 4 * 4)) r
def four : List Nat := [3, 7, 11, 15]
def three : List Nat := [4, 8, 12]
def clamp (r : List Nat) : List Nat := high6 (low4 r four) three
def pp : Nat := 2 ^ 130 - 5

/-- One block more. -/
def stir (r a : Nat) (xs : List Nat) : Nat := (a + le (xs.take 16 ++ [1])) * r % pp
/-- The whole message. -/
def stirred (r : Nat) : Nat → Nat → List Nat → Nat
  | 0, a, _ => a
  | k + 1, a, xs => if xs = [] then a else stirred r k (stir r a xs) (xs.drop 16)
def bytesLE (N n : Nat) : List Nat := (List.range n).map fun i => N / B8 i % 256
def tagNum (key xs : List Nat) : Nat := stirred (le (clamp (key.take 16))) xs.length 0 xs + le (key.drop 16)
def tagOf (key xs : List Nat) : List Nat := bytesLE (tagNum key xs) 16

theorem bytesLE_length (N n : Nat) : (bytesLE N n).length = n := by simp [bytesLE]
theorem bytesLE_get {N n i : Nat} (h : i < n) : (bytesLE N n)[i]? = some (N / B8 i % 256) := by simp [bytesLE, h]
theorem tagOf_length (key xs : List Nat) : (tagOf key xs).length = 16 := bytesLE_length _ _
theorem bytesLE_le {xs : List Nat} (h : Bytes8 xs) : bytesLE (le xs) xs.length = xs := by
  apply List.ext_getElem?
  intro i
  by_cases hi : i < xs.length
  · rw [bytesLE_get hi, List.getElem?_eq_getElem hi]
    congr 1
    have key : ∀ (xs : List Nat), Bytes8 xs → ∀ j (hj : j < xs.length), le xs / B8 j % 256 = xs[j] := by
      intro xs
      induction xs with
      | nil => intro _ j hj; simp at hj
      | cons x xs ih =>
        intro h j hj
        have hx : x < 256 := h x (by simp)
        cases j with
        | zero => simp only [le, B8_zero, Nat.div_one, List.getElem_cons_zero]; omega
        | succ j =>
          simp only [le, B8_succ, List.getElem_cons_succ]
          rw [← Nat.div_div_eq_div_mul, show (x + 256 * le xs) / 256 = le xs by omega]
          exact ih (fun y hy => h y (by simp [hy])) j (by simpa using hj)
    exact key xs h i hi
  · rw [List.getElem?_eq_none (by rw [bytesLE_length]; omega), List.getElem?_eq_none (by omega)]

/-- More rounds than blocks change nothing. -/
theorem stirred_nil (r k a : Nat) : stirred r k a [] = a := by cases k <;> simp [stirred]
theorem stirred_more (r : Nat) : ∀ (k m a : Nat) (xs : List Nat), xs.length ≤ k → xs.length ≤ m → stirred r k a xs = stirred r m a xs := by
  intro k
  induction k with
  | zero =>
    intro m a xs h _
    have : xs = [] := List.eq_nil_of_length_eq_zero (by omega)
    subst this
    rw [stirred_nil, stirred_nil]
  | succ k ih =>
    intro m a xs h1 h2
    by_cases hx : xs = []
    · subst hx; rw [stirred_nil, stirred_nil]
    · have h0 : 0 < xs.length := List.length_pos_iff.2 hx
      cases m with
      | zero => omega
      | succ m =>
        simp only [stirred, if_neg hx]
        exact ih m _ _ (by rw [List.length_drop]; omega) (by rw [List.length_drop]; omega)
theorem stirred_step {r a : Nat} {xs : List Nat} (h : 0 < xs.length) : stirred r xs.length a xs = stirred r (xs.drop 16).length (stir r a xs) (xs.drop 16) := by
  obtain ⟨k, hk⟩ : ∃ k, xs.length = k + 1 := ⟨xs.length - 1, by omega⟩
  rw [hk]
  simp only [stirred, if_neg (show xs ≠ [] from fun e => by rw [e] at h; simp at h)]
  exact stirred_more _ _ _ _ _ (by rw [List.length_drop]; omega) (Nat.le_refl _)

theorem low4_length (r is : List Nat) : (low4 r is).length = r.length := by
  unfold low4
  induction is generalizing r with
  | nil => rfl
  | cons i is ih => simp only [List.foldl_cons]; rw [ih, List.length_set]
theorem high6_length (r is : List Nat) : (high6 r is).length = r.length := by
  unfold high6
  induction is generalizing r with
  | nil => rfl
  | cons i is ih => simp only [List.foldl_cons]; rw [ih, List.length_set]
theorem Bytes8.set {xs : List Nat} (h : Bytes8 xs) (i : Nat) {x : Nat} (hx : x < 256) : Bytes8 (xs.set i x) := by
  intro y hy
  rcases List.mem_or_eq_of_mem_set hy with h1 | h1
  · exact h y h1
  · rw [h1]; exact hx
theorem low4_bytes {r : List Nat} (h : Bytes8 r) (is : List Nat) : Bytes8 (low4 r is) := by
  unfold low4
  induction is generalizing r with
  | nil => exact h
  | cons i is ih => exact ih (h.set i (by omega))
theorem high6_bytes {r : List Nat} (h : Bytes8 r) (is : List Nat) : Bytes8 (high6 r is) := by
  unfold high6
  induction is generalizing r with
  | nil => exact h
  | cons i is ih => exact ih (h.set i (by have := h.get i; omega))
theorem clamp_bytes {r : List Nat} (h : Bytes8 r) : Bytes8 (clamp r) := high6_bytes (low4_bytes h _) _
theorem low4_snoc (r is : List Nat) (i : Nat) : low4 r (is ++ [i]) = (low4 r is).set i ((low4 r is).getD i 0 % 16) := by simp [low4]
theorem high6_snoc (r is : List Nat) (i : Nat) : high6 r (is ++ [i]) = (high6 r is).set i ((high6 r is).getD i 0 / 4 * 4) := by simp [high6]
end Go.Proofs.Ythpfpnialeoclaa
