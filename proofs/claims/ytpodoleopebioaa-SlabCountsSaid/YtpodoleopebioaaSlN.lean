/- Numbers of the laws of a slab. -/
import Derived.Test.YtpodoleopebioaaSlJ
namespace Go.Proofs.Ytpodoleopebioaa
open Go Go.RowKit
set_option maxRecDepth 100000

theorem rest_is3 (t : Int) (m : Nat) (hm : 0 < m) : ∃ k : Nat, IntKind.u64.wrap t % (m : Int) = (k : Int) ∧ k < m := by
  have h3 := Int.emod_nonneg (IntKind.u64.wrap t) (show (m : Int) ≠ 0 by omega)
  have h4 := Int.emod_lt_of_pos (IntKind.u64.wrap t) (show (0 : Int) < m by omega)
  exact ⟨(IntKind.u64.wrap t % (m : Int)).toNat, by omega, by omega⟩
theorem wrap_pos (t : Int) : 0 ≤ IntKind.u64.wrap t := by rw [IntKind.wrap_u64]; omega

namespace SM
set_option maxRecDepth 100000
theorem burnL_made : ∀ (ks : List Nat) (S : SM), -1 ≤ S.sup → 0 ≤ S.made → S.made + ks.length ≤ 9223372036854775807 → (burnL ks S).2.made = S.made + (S.burns ks.length : Nat)
  | [], S, h, _, _ => by
    have : S.burns ([] : List Nat).length = 0 := by unfold burns; split <;> simp
    rw [this]
    show S.made = _
    omega
  | k :: ks, S, h, h0, h1 => by
    unfold burnL
    by_cases hs : S.sup = 0
    · have hb : S.burns (k :: ks).length = 0 := by unfold burns; rw [if_neg (by omega), hs]; simp
      rw [if_pos hs, hb]
      show S.made = _
      omega
    · rw [if_neg hs]
      have e : (S.burn1 k).sup = if S.sup = -1 then -1 else S.sup - 1 := rfl
      have e2 : (S.burn1 k).made = S.made + 1 := by
        show wrap64 (S.made + 1) = _
        unfold wrap64
        simp only [List.length_cons, Int.natCast_succ] at h1
        omega
      have ih := burnL_made ks (S.burn1 k) (by rw [e]; split <;> omega) (by rw [e2]; omega) (by rw [e2]; simp only [List.length_cons, Int.natCast_succ] at h1; omega)
      have hb : S.burns (k :: ks).length = (S.burn1 k).burns ks.length + 1 := by
        unfold burns
        rw [e]
        by_cases h9 : S.sup = -1
        · simp [h9]
        · rw [if_neg h9, if_neg h9, if_neg (by omega)]
          simp only [List.length_cons]; omega
      rw [ih, e2, hb]
      omega
end SM

/-- So many inked of a supply. -/
def cst (p i : Nat) : SM := ⟨64, fun _ => plainN 0, fun k => if k < min i p then some (plainN (k + 1)) else none, (p : Int) - (min i p : Nat), (min i p : Nat)⟩
theorem cst_zero (p : Nat) : (SM.new 64).supply p = cst p 0 := by
  unfold SM.supply
  rw [if_neg (show (SM.new 64).sup ≠ 0 by decide)]
  unfold cst SM.new
  simp only [Nat.zero_min, Nat.not_lt_zero, if_false]
  congr 1
  omega
theorem cst_ink {p i : Nat} (hi : i < 64) (hp : i < p) (_hp80 : p ≤ 80) : (cst p i).put i (plainN (i + 1)) = (0, cst p (i + 1)) := by
  have hm : min i p = i := by omega
  have hm1 : min (i + 1) p = i + 1 := by omega
  have hs : (cst p i).sup = (p : Int) - i := by show (p : Int) - (min i p : Nat) = _; rw [hm]
  have hr : (cst p i).reach i = 0 := by
    unfold SM.reach
    rw [hs, if_neg (by omega), if_neg]
    show ¬ ((i : Int) < 0 ∨ ((64 : Nat) : Int) ≤ i)
    omega
  unfold SM.put
  rw [hr, if_neg (by decide), if_neg (by rw [plainN_len]; decide), Int.toNat_natCast]
  congr 1
  unfold SM.inkAt SM.stroke
  rw [hs, if_neg (by omega)]
  unfold cst
  simp only [hm, hm1]
  congr 1
  · funext j
    by_cases h1 : j = i
    · subst h1; simp
    · rw [if_neg h1]
      by_cases h2 : j < i
      · rw [if_pos h2, if_pos (by omega)]
      · rw [if_neg h2, if_neg (by omega)]
  · omega
  · unfold wrap64; omega
theorem cst_out {p i : Nat} (hp : p ≤ i) (x : List Nat) : (cst p i).put i x = (12, cst p (i + 1)) := by
  have hm : min i p = p := by omega
  have hm1 : min (i + 1) p = p := by omega
  have hr : (cst p i).reach i = 12 := by
    unfold SM.reach
    rw [if_pos (show (cst p i).sup = 0 by show (p : Int) - (min i p : Nat) = 0; rw [hm]; omega)]
  unfold SM.put
  rw [hr, if_pos (by decide)]
  congr 1
  unfold cst
  rw [hm, hm1]
theorem cst_inked (p i : Nat) (hi : i ≤ 64) : (cst p i).inked = List.range (min i p) := by
  unfold SM.inked
  show (List.range 64).filter (fun k => (if k < min i p then some (plainN (k + 1)) else none).isSome) = _
  have e : (fun k => (if k < min i p then some (plainN (k + 1)) else none).isSome) = fun k => decide (k < min i p) := by
    funext k
    by_cases h : k < min i p
    · rw [if_pos h]; simp [h]
    · rw [if_neg h]; simp [h]
  rw [e]
  have gen : ∀ (n m : Nat), m ≤ n → (List.range n).filter (fun k => decide (k < m)) = List.range m := by
    intro n m hmn
    induction n with
    | zero => obtain rfl : m = 0 := by omega
              rfl
    | succ n ih =>
      by_cases hm : m ≤ n
      · rw [List.range_succ, List.filter_append, ih hm]
        simp [show ¬ n < m by omega]
      · obtain rfl : m = n + 1 := by omega
        rw [List.filter_eq_self.2 (fun k hk => by simpa using hk)]
  exact gen 64 _ (by omega)

/-- How many burn. -/
def cBurnt (p t : Nat) : Nat := min t (p - t)
/-- What the burning of so many comes to. -/
theorem cst_burn {p t : Nat} (ht : t ≤ 64) (ht1 : 1 ≤ t) (hp : p ≤ 80) :
    (cst p t).burn.1 = (if t < p ∧ cBurnt p t = t then 0 else 12) ∧ (cst p t).burn.2.made = (min p (t + cBurnt p t) : Nat) ∧ (cst p t).burn.2.n = 64 ∧ ∀ j, j < t → (cst p t).burn.2.bur j = if j < cBurnt p t then plainN (j + 1) else plainN 0 := by
  have hs : (cst p t).sup = (p : Int) - (min t p : Nat) := rfl
  have hmade : (cst p t).made = (min t p : Nat) := rfl
  unfold SM.burn
  by_cases h0 : (cst p t).sup = 0
  · rw [if_pos h0]
    rw [hs] at h0
    have hb : cBurnt p t = 0 := by unfold cBurnt; omega
    rw [hb]
    refine ⟨by rw [if_neg (by omega)], ?_, rfl, fun j hj => by rw [if_neg (by omega)]; rfl⟩
    show ((min t p : Nat) : Int) = _
    omega
  · rw [if_neg h0, cst_inked p t ht]
    rw [hs] at h0
    have hm : min t p = t := by omega
    have hsup : (cst p t).sup = ((p - t : Nat) : Int) := by rw [hs, hm]; omega
    rw [hm] at *
    have h1 := SM.burnL_err (List.range t) (cst p t) (by rw [hsup]; omega)
    have h2 := SM.burnL_made (List.range t) (cst p t) (by rw [hsup]; omega) (by rw [hmade]; omega) (by rw [hmade, List.length_range]; omega)
    obtain ⟨h3, _, h5, _⟩ := SM.burnL_at (List.range t) (cst p t) List.nodup_range (by rw [hsup]; omega)
    have hbu : (cst p t).burns (List.range t).length = cBurnt p t := by
      unfold SM.burns cBurnt
      rw [hsup, if_neg (by omega), List.length_range, Int.toNat_natCast]
    rw [hbu] at h2 h3
    refine ⟨?_, ?_, h5, fun j hj => ?_⟩
    · rw [h1, hsup, List.length_range]
      unfold cBurnt
      by_cases h9 : t ≤ p - t
      · rw [if_pos (by omega), if_pos (by omega)]
      · rw [if_neg (by omega), if_neg (by omega)]
    · rw [h2, hmade]
      unfold cBurnt
      omega
    · rw [h3 j]
      have hmem : j ∈ (List.range t).take (cBurnt p t) ↔ j < cBurnt p t := by
        rw [List.take_range, List.mem_range]
        omega
      by_cases h9 : j < cBurnt p t
      · rw [if_pos (hmem.2 h9), if_pos h9]
        show ((if j < min t p then some (plainN (j + 1)) else none)).getD (plainN 0) = _
        rw [if_pos (by omega)]; rfl
      · rw [if_neg (fun h => h9 (hmem.1 h)), if_neg h9]
        rfl
theorem wake_nil (S : SM) : S.wake [] = { S with ink := fun _ => none, sup := -1 } := by
  unfold SM.wake
  have : S.wakes [] = S.bur := by
    funext j
    unfold SM.wakes SM.lastOf
    cases S.ink j <;> rfl
  rw [this]

end Go.Proofs.Ytpodoleopebioaa
