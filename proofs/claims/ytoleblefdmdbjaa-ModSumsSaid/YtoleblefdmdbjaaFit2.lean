/- More contracts as the laws use them; of the order of numbers. -/
import Derived.Test.YtoleblefdmdbjaaFit
namespace Go.Proofs.Ytoleblefdmdbjaa
open Go Go.RowKit Go.Proofs.Ytoleblefdmdbjaa.Flow

/-- A number's fewest bytes, as a value. -/
def LeastVal (N : Nat) (v : Value) (w : World) : Prop := ∃ q n d, v = .slice q n d ∧ Row w .u8 q n d (beOf N (bsize N))
theorem LeastVal.below {N : Nat} {v : Value} {w w' : World} (h : LeastVal N v w) (hb : Below w.heap.size w w') : LeastVal N v w' :=
  let ⟨q, n, d, h1, h2⟩ := h
  ⟨q, n, d, h1, h2.below hb⟩
/-- Its string. -/
def leastStr (N : Nat) : ByteArray := strOf (beOf N (bsize N))

theorem zero_fit {w : World} {v : Value} {e N : Nat} (h : Fit e N v w) :
    Calls Try.prog 26 #[v] w fun en w' => ∃ x, en = .returned x ∧ x = .bool (decide (N = 0)) ∧ Below w.heap.size w w' := by
  obtain ⟨p, n, c, rfl, h1, h2⟩ := h
  refine (zero_calls w p n c).mono ?_
  rintro en w' ⟨rfl, hb⟩
  exact ⟨_, rfl, by rw [decide_eq_decide.2 h1.zero], hb⟩

theorem one_fit (w : World) :
    Calls Try.prog 19 #[.int .u64 1] w fun en w' => ∃ x, en = .returned x ∧ Fit 1 1 x w' ∧ Below w.heap.size w w' := by
  refine (new_calls 1 w (by decide)).mono ?_
  rintro en w' ⟨p, n, c, rfl, hn, hb, _⟩
  exact ⟨_, rfl, Fit.of hn (by decide), hb⟩

theorem least_fit {w : World} {v : Value} {e N : Nat} (h : Fit e N v w) (he : e ≤ 30000) :
    Calls Try.prog 39 #[v] w fun en w' => ∃ x, en = .returned x ∧ LeastVal N x w' ∧ Below w.heap.size w w' := by
  obtain ⟨p, n, c, rfl, h1, h2⟩ := h
  have l1 := h1.len_le h2
  have hbl : blen N ≤ 32 * e := (blen_le N _).2 (by
    have : B32 e = 2 ^ (32 * e) := by unfold B32; rw [Nat.pow_mul]
    rw [← this]; exact h2)
  refine (least_calls w p n c N h1 (by omega) (by omega)).mono ?_
  rintro en w' ⟨x, rfl, ⟨q, m, d, k1, k2, _⟩, hb⟩
  exact ⟨_, rfl, ⟨q, m, d, k1, k2⟩, hb⟩

theorem leastStr_conv {N : Nat} {v : Value} {w : World} (h : LeastVal N v w) : (convert 22 9 v).run Try.prog w = .ok (.string (leastStr N)) w := by
  obtain ⟨q, n, d, rfl, h2⟩ := h
  exact convert_row h2

theorem strOf_toList {xs : List Nat} (h : Bytes8 xs) : (strOf xs).data.toList.map (fun b => b.toNat) = xs := by
  unfold strOf strOfNums
  simp only [List.map_map]
  conv => rhs; rw [← List.map_id xs]
  apply List.map_congr_left
  intro x hx
  have := h x hx
  simp
  omega

theorem beOf_inj {N M : Nat} (h : beOf N (bsize N) = beOf M (bsize M)) : N = M := by
  unfold beOf at h
  have h2 := List.reverse_inj.1 h
  have e1 := congrArg le h2
  rw [le_leOf, le_leOf, Nat.mod_eq_of_lt (bsize_lt N), Nat.mod_eq_of_lt (bsize_lt M)] at e1
  exact e1

theorem leastStr_inj {N M : Nat} (h : (leastStr N).data.toList = (leastStr M).data.toList) : N = M := by
  refine beOf_inj ?_
  have hN : Bytes8 (beOf N (bsize N)) := (leOf_bytes N _).reverse
  have hM : Bytes8 (beOf M (bsize M)) := (leOf_bytes M _).reverse
  rw [← strOf_toList hN, ← strOf_toList hM]
  unfold leastStr at h
  rw [h]

theorem cmpI_add (x y z : Nat) : cmpI (x + z) (y + z) = cmpI x y := by
  unfold cmpI; repeat' split
  all_goals omega
theorem cmpI_mul {z : Nat} (hz : 0 < z) (x y : Nat) : cmpI (x * z) (y * z) = cmpI x y := by
  unfold cmpI
  simp only [Nat.mul_lt_mul_right hz]
  by_cases h : x < y
  · rw [if_pos h, if_pos h]
  · rw [if_neg h, if_neg h]
    by_cases h2 : x = y
    · subst h2; simp
    · have : x * z ≠ y * z := fun e => h2 (Nat.eq_of_mul_eq_mul_right hz e)
      rw [if_neg h2, if_neg this]
theorem cmpI_swap (x y : Nat) : cmpI y x = - cmpI x y := by
  unfold cmpI; repeat' split
  all_goals omega
theorem cmpI_zero {x y : Nat} : cmpI x y = 0 ↔ x = y := by
  unfold cmpI; repeat' split
  all_goals omega
theorem cmpI_pos {x y : Nat} : 0 < cmpI x y ↔ y < x := by
  unfold cmpI; repeat' split
  all_goals omega
theorem cmpI_range (x y : Nat) : -1 ≤ cmpI x y ∧ cmpI x y ≤ 1 := by
  unfold cmpI; repeat' split
  all_goals omega
theorem cmpI_up (x : Nat) : cmpI (x + 1) x = 1 := by
  unfold cmpI; repeat' split
  all_goals omega

end Go.Proofs.Ytoleblefdmdbjaa
