/- The document's primes and roots, over numbers. -/
import Derived.Test.YtgpkkcielpogoaaDoorShaM
namespace Go.Proofs.YtgpkkcielpogoaaDoor
open Go Go.RowKit

/-- One step of a long product: a word of the one times a word of the other. -/
def tstep (xs ys : List Nat) (i k : Nat) (s : List Nat × Nat) : List Nat × Nat :=
  (s.1.set (i + k) (((xs.getD i 0 * ys.getD k 0 % 18446744073709551616 + s.1.getD (i + k) 0) % 18446744073709551616 + s.2) % 18446744073709551616 % 4294967296),
   ((xs.getD i 0 * ys.getD k 0 % 18446744073709551616 + s.1.getD (i + k) 0) % 18446744073709551616 + s.2) % 18446744073709551616 / 4294967296)
def trow (xs ys : List Nat) (i : Nat) (o : List Nat) : Nat → List Nat × Nat
  | 0 => (o, 0)
  | k + 1 => tstep xs ys i k (trow xs ys i o k)
def tadd (ys : List Nat) (i : Nat) (s : List Nat × Nat) : List Nat := s.1.set (i + ys.length) ((s.1.getD (i + ys.length) 0 + s.2) % 18446744073709551616)
def tims (xs ys : List Nat) : Nat → List Nat
  | 0 => List.replicate (xs.length + ys.length) 0
  | i + 1 => tadd ys i (trow xs ys i (tims xs ys i) ys.length)
def times (xs ys : List Nat) : List Nat := tims xs ys xs.length

theorem trow_length (xs ys : List Nat) (i : Nat) (o : List Nat) (k : Nat) : (trow xs ys i o k).1.length = o.length := by
  induction k with
  | zero => rfl
  | succ k ih => simp [trow, tstep, ih]
theorem tims_length (xs ys : List Nat) (i : Nat) : (tims xs ys i).length = xs.length + ys.length := by
  induction i with
  | zero => simp [tims]
  | succ i ih => simp [tims, tadd, trow_length, ih]
theorem times_length (xs ys : List Nat) : (times xs ys).length = xs.length + ys.length := tims_length xs ys _

/-- All below 2^64. -/
def W64 (xs : List Nat) : Prop := ∀ x ∈ xs, x < 18446744073709551616
theorem W64.get {xs : List Nat} (h : W64 xs) (i : Nat) : xs.getD i 0 < 18446744073709551616 := by
  rw [List.getD_eq_getElem?_getD]
  rcases Nat.lt_or_ge i xs.length with h1 | h1
  · simp [h1]; exact h _ (List.getElem_mem _)
  · simp [List.getElem?_eq_none h1]
theorem W64.zeros (n : Nat) : W64 (List.replicate n 0) := by intro x hx; have := (List.mem_replicate.1 hx).2; omega
theorem W64.set {xs : List Nat} (h : W64 xs) (i x : Nat) (hx : x < 18446744073709551616) : W64 (xs.set i x) := by
  intro y hy
  rcases List.mem_or_eq_of_mem_set hy with h1 | rfl
  · exact h y h1
  · exact hx
theorem trow_w (xs ys : List Nat) (i : Nat) {o : List Nat} (h : W64 o) (k : Nat) : W64 (trow xs ys i o k).1 ∧ (trow xs ys i o k).2 < 18446744073709551616 := by
  induction k with
  | zero => exact ⟨h, by show 0 < _; omega⟩
  | succ k ih =>
    refine ⟨ih.1.set _ _ ?_, ?_⟩
    · omega
    · show _ / _ < _
      omega
theorem tims_w (xs ys : List Nat) (i : Nat) : W64 (tims xs ys i) := by
  induction i with
  | zero => exact W64.zeros _
  | succ i ih => exact (trow_w xs ys i ih _).1.set _ _ (Nat.mod_lt _ (by omega))
theorem times_w (xs ys : List Nat) : W64 (times xs ys) := tims_w xs ys _

/-- The word behind the first e ones, and whether there's anything in these. -/
def fhi (n : List Nat) : Nat → Nat
  | 0 => 0
  | j + 1 => (fhi n j * 4294967296 % 18446744073709551616 + n.getD (n.length - 1 - j) 0) % 18446744073709551616
def frest (n : List Nat) : Nat → Bool
  | 0 => false
  | j + 1 => frest n j || decide (0 < n.getD j 0)
def fpow (x : Nat) : Nat → List Nat
  | 0 => [1]
  | e + 1 => times (fpow x e) [x % 4294967296, x / 4294967296]
def ffits (x p e : Nat) : Bool := (fun n => decide (fhi n (n.length - e) < p) || (decide (fhi n (n.length - e) = p) && !frest n e)) (fpow x e)

theorem fhi_lt (n : List Nat) (j : Nat) : fhi n j < 18446744073709551616 := by
  cases j with
  | zero => show 0 < _; omega
  | succ j => exact Nat.mod_lt _ (by omega)
theorem fpow_length (x e : Nat) : (fpow x e).length = 1 + 2 * e := by
  induction e with
  | zero => rfl
  | succ e ih => simp [fpow, times_length, ih]; omega
theorem fpow_w (x e : Nat) : W64 (fpow x e) := by
  cases e with
  | zero => intro y hy; simp [fpow] at hy; omega
  | succ e => exact times_w _ _

/-- The root, so many bits of it. -/
def froot (p e : Nat) : Nat → Nat
  | 0 => 0
  | j + 1 => if ffits ((froot p e j + 68719476736 / 2 ^ j) % 18446744073709551616) p e then (froot p e j + 68719476736 / 2 ^ j) % 18446744073709551616 else froot p e j
theorem froot_lt (p e j : Nat) : froot p e j < 18446744073709551616 := by
  induction j with
  | zero => show 0 < _; omega
  | succ j ih =>
    show (if _ then _ else _) < _
    split
    · exact Nat.mod_lt _ (by omega)
    · exact ih
def root (p e : Nat) : Nat := froot p e 37 % 4294967296

/-- Nothing below d divides p (of those whose square is not beyond p). -/
def sieve (p : Nat) : Nat → Bool
  | 0 => true
  | d + 1 => sieve p d && (decide (d < 2) || decide (p < d * d) || decide (p % d ≠ 0))
def isp (p : Nat) : Bool := sieve p 20
theorem sieve_end (p d : Nat) (h : p < d * d) (n : Nat) : sieve p (d + n) = sieve p d := by
  induction n with
  | zero => rfl
  | succ n ih =>
    have h1 : p < (d + n) * (d + n) := Nat.lt_of_lt_of_le h (Nat.mul_le_mul (by omega) (by omega))
    show (sieve p (d + n) && _) = _
    rw [ih]
    simp [h1]
theorem isp_of (p d : Nat) (h : p < d * d) (hd : d ≤ 20) : isp p = sieve p d := by
  obtain ⟨n, hn⟩ : ∃ n, 20 = d + n := ⟨20 - d, by omega⟩
  unfold isp
  rw [hn, sieve_end p d h]
theorem sieve_two (p : Nat) : sieve p 2 = true := by simp [sieve]
theorem sieve_step {p d : Nat} (h2 : 2 ≤ d) (h : d * d ≤ p) : sieve p (d + 1) = (sieve p d && decide (p % d ≠ 0)) := by
  show (sieve p d && _) = _
  have e1 : decide (d < 2) = false := by simpa using h2
  have e2 : decide (p < d * d) = false := by simpa using h
  rw [e1, e2]; simp

/-- The n-th prime from p on, f numbers looked at. -/
def prim : Nat → Nat → Nat → Nat
  | 0, _, _ => 0
  | f + 1, p, n => if isp p then (if n = 0 then p else prim f (p + 1) (n - 1)) else prim f (p + 1) n
def prime (n : Nat) : Nat := prim 398 2 n

/-- An array of roots, so many of them laid. -/
def laid (N e : Nat) : Nat → List Nat
  | 0 => List.replicate N 0
  | i + 1 => (laid N e i).set i (root (prime i) e)
theorem laid_length (N e i : Nat) : (laid N e i).length = N := by
  induction i with
  | zero => simp [laid]
  | succ i ih => simp [laid, ih]
theorem prim_lt (f p n : Nat) (h : p + f ≤ 400) : prim f p n < 400 := by
  induction f generalizing p n with
  | zero => show 0 < _; omega
  | succ f ih =>
    show (if _ then (if _ then _ else _) else _) < _
    split
    · split
      · omega
      · exact ih _ _ (by omega)
    · exact ih _ _ (by omega)
theorem prime_lt (n : Nat) : prime n < 400 := prim_lt _ _ _ (by omega)
end Go.Proofs.YtgpkkcielpogoaaDoor
