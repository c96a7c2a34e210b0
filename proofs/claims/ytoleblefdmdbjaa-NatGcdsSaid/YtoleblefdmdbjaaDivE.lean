/- Of long division: words shifted up and down. -/
import Derived.Test.YtoleblefdmdbjaaDivD
import Derived.Test.YtoleblefdmdbjaaNatK
namespace Go.Proofs.Ytoleblefdmdbjaa
open Go Go.RowKit Go.Proofs.Ytoleblefdmdbjaa.Flow

theorem val_set : ∀ (xs : List Nat) (i y : Nat), i < xs.length → val (xs.set i y) + B32 i * xs.getD i 0 = val xs + B32 i * y
  | x :: xs, 0, y, _ => by simp [val, B32_zero]; omega
  | x :: xs, i + 1, y, h => by
    have e := val_set xs i y (by simpa using h)
    simp only [List.set_cons_succ, val, List.getD_cons_succ, B32_succ]
    have e1 : 4294967296 * B32 i * xs.getD i 0 = 4294967296 * (B32 i * xs.getD i 0) := Nat.mul_assoc _ _ _
    have e2 : 4294967296 * B32 i * y = 4294967296 * (B32 i * y) := Nat.mul_assoc _ _ _
    rw [e1, e2]; omega

theorem Words.set {xs : List Nat} (h : Words xs) (i : Nat) {y : Nat} (hy : y < 4294967296) : Words (xs.set i y) := by
  intro z hz
  rcases List.mem_or_eq_of_mem_set hz with h1 | rfl
  · exact h z h1
  · exact hy

theorem pow_split {s c : Nat} (h : s + c = 32) : 2 ^ s * 2 ^ c = 4294967296 := by rw [← Nat.pow_add, h]

/-- A word shifted, with a smaller one. -/
theorem shl_join {d x s c : Nat} (h : s + c = 32) (hd : d < 2 ^ s) (hx : x < 4294967296) :
    d ||| (x * 2 ^ s % 4294967296) = (d + x * 2 ^ s) % 4294967296 ∧ (d + x * 2 ^ s) / 4294967296 = x / 2 ^ c ∧ x / 2 ^ c < 4294967296 := by
  have hp := pow_split h
  have hs : 0 < 2 ^ s := Nat.pow_pos (by omega)
  have hc : 0 < 2 ^ c := Nat.pow_pos (by omega)
  have e1 : x * 2 ^ s % 4294967296 = x % 2 ^ c * 2 ^ s := by
    rw [← hp, Nat.mul_comm (2 ^ s) (2 ^ c), Nat.mul_mod_mul_right]
  have e2 : x * 2 ^ s / 4294967296 = x / 2 ^ c := by
    rw [← hp, Nat.mul_comm (2 ^ s) (2 ^ c), Nat.mul_div_mul_right _ _ hs]
  have hm : x % 2 ^ c < 2 ^ c := Nat.mod_lt _ hc
  have h1 : x % 2 ^ c * 2 ^ s + 2 ^ s ≤ 4294967296 := by
    have := Nat.mul_le_mul_right (2 ^ s) (Nat.succ_le_of_lt hm)
    rw [Nat.succ_eq_add_one, Nat.add_mul, Nat.one_mul, Nat.mul_comm (2 ^ c), hp] at this
    exact this
  have hdm := Nat.div_add_mod (x * 2 ^ s) 4294967296
  rw [e1, e2] at hdm
  refine ⟨?_, ?_, ?_⟩
  · rw [e1, Nat.or_comm, nat_join s (x % 2 ^ c * 2 ^ s) d (Nat.mul_mod_left _ _) hd]
    omega
  · omega
  · exact Nat.lt_of_le_of_lt (Nat.div_le_self _ _) hx

/-- One word more. -/
theorem up_step {V k x n s c : Nat} (h : s + c = 32) (hV : V < B32 k * 2 ^ s) (hx : x < 4294967296) (hk : k + 1 < n) :
    V / B32 k % 4294967296 < 2 ^ s ∧ ((wordsOf V n).set k ((V / B32 k % 4294967296 + x * 2 ^ s) % 4294967296)).set (k + 1) (x / 2 ^ c) = wordsOf (V + B32 k * (x * 2 ^ s)) n := by
  have hB := B32_pos k
  have hp := pow_split h
  have hs32 : 2 ^ s ≤ 4294967296 := by rw [← hp]; exact Nat.le_mul_of_pos_right _ (Nat.pow_pos (by omega))
  have hd : V / B32 k < 2 ^ s := by rw [Nat.div_lt_iff_lt_mul hB, Nat.mul_comm]; exact hV
  have hd' : V / B32 k % 4294967296 < 2 ^ s := Nat.lt_of_le_of_lt (Nat.mod_le _ _) hd
  refine ⟨hd', ?_⟩
  have hVk : V < B32 (k + 1) := by
    rw [B32_succ, Nat.mul_comm]
    exact Nat.lt_of_lt_of_le hV (Nat.mul_le_mul_left _ hs32)
  have hVn : V < B32 n := Nat.lt_of_lt_of_le hVk (B32_mono (by omega))
  obtain ⟨h1, h2, h3⟩ := shl_join h hd' hx
  have e0 : (wordsOf V n).getD k 0 = V / B32 k % 4294967296 := by rw [List.getD_eq_getElem?_getD, wordsOf_get (by omega)]; rfl
  have e1 : (wordsOf V n).getD (k + 1) 0 = 0 := by
    rw [List.getD_eq_getElem?_getD, wordsOf_get (by omega), Nat.div_eq_of_lt hVk]; rfl
  generalize V / B32 k % 4294967296 = d at *
  generalize x / 2 ^ c = y at *
  have hm : (d + x * 2 ^ s) % 4294967296 < 4294967296 := Nat.mod_lt _ (by omega)
  have hdm := Nat.div_add_mod (d + x * 2 ^ s) 4294967296
  rw [h2] at hdm
  generalize (d + x * 2 ^ s) % 4294967296 = z at *
  refine eq_wordsOf (by simp [wordsOf_length]) (((wordsOf_words _ _).set _ hm).set _ h3) ?_
  have v1 := val_set (wordsOf V n) k z (by rw [wordsOf_length]; omega)
  have v2 := val_set ((wordsOf V n).set k z) (k + 1) y (by simp [wordsOf_length]; omega)
  have e3 : ((wordsOf V n).set k z).getD (k + 1) 0 = 0 := by
    rw [List.getD_eq_getElem?_getD, List.getElem?_set_ne (by omega), ← List.getD_eq_getElem?_getD, e1]
  rw [e3, Nat.mul_zero, Nat.add_zero, B32_succ] at v2
  rw [e0, val_wordsOf_lt hVn] at v1
  have e4 : 4294967296 * B32 k * y = B32 k * (4294967296 * y) := by ac_rfl
  have e5 : B32 k * (4294967296 * y) + B32 k * z = B32 k * d + B32 k * (x * 2 ^ s) := by rw [← Nat.mul_add, hdm, Nat.mul_add]
  omega

theorem lz_calls (x : Nat) (w : World) (hx : x < 4294967296) :
    Calls Try.prog 77 #[.int .u32 x] w fun e w' => e = .returned (.int .i64 ((32 - blen x : Nat) : Int)) ∧ w = w' := by
  have hb : blen x ≤ 32 := (blen_le x 32).2 hx
  go_enter Try.func77, Try.ntmps77
  go_wp2_with fail
  refine (len32_calls x w hx).mono ?_
  rintro e w' ⟨rfl, rfl⟩
  go_wp2
  go_ret
  exact ⟨congrArg (fun z : Int => Ending.returned (.int .i64 z)) (by omega), rfl⟩

end Go.Proofs.Ytoleblefdmdbjaa
