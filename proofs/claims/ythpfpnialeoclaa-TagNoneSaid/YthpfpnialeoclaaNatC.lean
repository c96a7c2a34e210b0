/- Which of two numbers is greater. -/
import Derived.Test.YthpfpnialeoclaaMath
import Derived.Test.YthpfpnialeoclaaNatA
import Derived.RangeFuncNested
import Derived.RangeFuncBound
import Derived.RangeFuncCalls
import Derived.RangeFuncLeaves
import Derived.Shelf.Abstract
import Derived.Shelf.RegionOpen
import Derived.OwnWalkIn
import Derived.TacticsInMore
import Derived.LoopNIn
import Derived.LoopIn
/-! How many bits a number has, how two stand to each other: plain laws. -/
namespace Go.Proofs.Ythpfpnialeoclaa
open Go Go.RowKit

/-- How many bits a number needs. -/
def blen (n : Nat) : Nat := if n = 0 then 0 else n.log2 + 1
theorem blen_le (n k : Nat) : blen n ≤ k ↔ n < 2 ^ k := by
  unfold blen
  by_cases h : n = 0
  · subst h; simp [Nat.pow_pos]
  · rw [if_neg h, ← Nat.log2_lt h]; omega
theorem blen_lt (n : Nat) : n < 2 ^ blen n := (blen_le n _).1 (Nat.le_refl _)
theorem blen_zero : blen 0 = 0 := rfl
theorem blen_pos {n : Nat} (h : 0 < n) : 0 < blen n := by unfold blen; rw [if_neg (by omega)]; omega
theorem blen_shift (n k : Nat) (h : 0 < n / 2 ^ k) : blen n = k + blen (n / 2 ^ k) := by
  have hp : 0 < 2 ^ k := Nat.pow_pos (by omega)
  have h1 := blen_lt (n / 2 ^ k)
  have h2 := blen_lt n
  apply Nat.le_antisymm
  · rw [blen_le, Nat.pow_add, Nat.mul_comm]
    rwa [Nat.div_lt_iff_lt_mul hp] at h1
  · have hk : k ≤ blen n := by
      rcases Nat.lt_or_ge (blen n) k with h3 | h3
      · have : 2 ^ blen n ≤ 2 ^ k := Nat.pow_le_pow_right (by omega) (Nat.le_of_lt h3)
        have : n / 2 ^ k = 0 := Nat.div_eq_of_lt (by omega)
        omega
      · exact h3
    have : blen (n / 2 ^ k) ≤ blen n - k := by
      rw [blen_le, Nat.div_lt_iff_lt_mul hp, ← Nat.pow_add, Nat.sub_add_cancel hk]; exact h2
    omega
theorem blen_byte {y : Nat} (h : y ≤ 255) : blen y ≤ 64 := by rw [blen_le]; exact Nat.lt_of_le_of_lt h (by decide)
/-- -1, 0, 1 -/
def cmpI (a b : Nat) : Int := if a < b then -1 else if a = b then 0 else 1
theorem cmpI_lt {a b : Nat} (h : a < b) : cmpI a b = -1 := by simp [cmpI, h]
theorem cmpI_eq (a : Nat) : cmpI a a = 0 := by simp [cmpI]
theorem cmpI_gt {a b : Nat} (h : b < a) : cmpI a b = 1 := by rw [cmpI, if_neg (by omega), if_neg (by omega)]
end Go.Proofs.Ythpfpnialeoclaa

namespace Go.Proofs.Ythpfpnialeoclaa
open Go Go.RowKit Go.Shelf
attribute [local go_sem] Oper.semAt_some



set_option maxHeartbeats 400000 in
theorem cmpInt_calls (a b : Nat) (w : World) :
    Calls Try.prog 49 #[.int .i64 a, .int .i64 b] w fun e w' => e = .returned (.int .i64 (cmpI a b)) ∧ w = w' := by
  rcases Nat.lt_trichotomy a b with h | rfl | h
  · rw [cmpI_lt h]
    have h1 : (a : Int) < b := by omega
    go_enter Try.func49, Try.ntmps49
    go_wp2
    go_ret
    exact ⟨rfl, rfl⟩
  · rw [cmpI_eq]
    go_enter Try.func49, Try.ntmps49
    go_wp2
    go_ret
    exact ⟨rfl, rfl⟩
  · rw [cmpI_gt h]
    have h1 : (b : Int) < a := by omega
    have h2 : ¬ (a : Int) < b := by omega
    go_enter Try.func49, Try.ntmps49
    go_wp2
    go_ret
    exact ⟨rfl, rfl⟩

set_option maxHeartbeats 400000 in
theorem cmpU32_calls (a b : Nat) (w : World) :
    Calls Try.prog 51 #[.int .u32 a, .int .u32 b] w fun e w' => e = .returned (.int .i64 (cmpI a b)) ∧ w = w' := by
  rcases Nat.lt_trichotomy a b with h | rfl | h
  · rw [cmpI_lt h]
    have h1 : (a : Int) < b := by omega
    go_enter Try.func51, Try.ntmps51
    go_wp2
    go_ret
    exact ⟨rfl, rfl⟩
  · rw [cmpI_eq]
    go_enter Try.func51, Try.ntmps51
    go_wp2
    go_ret
    exact ⟨rfl, rfl⟩
  · rw [cmpI_gt h]
    have h1 : (b : Int) < a := by omega
    have h2 : ¬ (a : Int) < b := by omega
    go_enter Try.func51, Try.ntmps51
    go_wp2
    go_ret
    exact ⟨rfl, rfl⟩

/-- The first k of the indexes, from the highest on. -/
def downs (n k : Nat) (h : k ≤ n) : List (Fin n) := (List.finRange k).map fun j => ⟨n - 1 - j.1, by have := j.2; omega⟩

theorem downs_length (n k : Nat) (h : k ≤ n) : (downs n k h).length = k := by simp [downs]
theorem downs_succ (n k : Nat) (h : k + 1 ≤ n) : downs n (k + 1) h = downs n k (by omega) ++ [⟨n - 1 - k, by omega⟩] := by
  unfold downs
  rw [List.finRange_succ_last]
  simp [Function.comp_def]

def encD (ws : List Nat) {n : Nat} (x : Fin n) : Array Value := #[.int .i64 (x.1 : Nat), .int .u32 (ws.getD x.1 0 : Nat)]

set_option maxRecDepth 100000 in
set_option maxHeartbeats 2000000 in
theorem fh1_in (F : Fence) (n : Nat) (h7 : F.fn 58) (hro : F.round = none) (hn : 1 ≤ n) (l Bs n₀ : Nat) (p : Option Addr) (len cap : Nat) (ws : List Nat) (w0 : World) (hrow : Row w0 .u32 p len cap ws) (hlen : len < 1000000) (hB : w0.heap.size ≤ n₀)
    (J Jx : List (Fin len) → World → Prop)
    (hY : ∀ pre x W, J pre W → pre.length < len → YieldAt F (n - 1) Try.prog l (encD ws x) W fun e W' =>
      (e = .returned (.bool true) ∧ J (pre ++ [x]) W' ∧ Below n₀ W W') ∨ (e = .returned (.bool false) ∧ Jx (pre ++ [x]) W'))
    (W : World) (hW : Below w0.heap.size w0 W) (hBn : Bs < n₀) (hBs : W.cell? ⟨Bs, 0, none⟩ = some (.slice p len cap)) (h0 : J [] W) :
    CallsIn F n Try.prog 58 #[.func (.yield l) #[] #[], .pointer (some ⟨Bs, 0, none⟩)] W fun e W' => (∃ v, e = .returned v) ∧
      ((∃ ys, (∃ h, ys = downs len len h) ∧ J ys W') ∨ (∃ pre, (∃ k h, pre = downs len k h) ∧ Jx pre W')) := by
  refine callsIn_of_wp Try.func58 rfl h7 ?_ hro
  simp only [Try.ntmps58, List.size_toArray, List.length_cons, List.length_nil, Nat.reduceAdd, Nat.reduceSub, Array.replicate_succ, Array.replicate_zero, List.push_toArray, List.append_toArray, List.nil_append, List.cons_append]
  gi_wp2
  gi_loopw [3] (fun i wr => ∃ k m : Nat, ∃ hk : k + m ≤ len, len ≤ k + m ∧ i = .int .i64 ((m : Int) - 1) ∧ J (downs len k (by omega)) wr ∧ Below n₀ W wr)
    (fun i _ => (intOf i + 1).toNat)
  case atStart => exact ⟨0, len, by omega, by omega, rfl, h0, Below.refl _ _⟩
  case round =>
    obtain ⟨k, m, hk, hk2, rfl, hJs, hnx⟩ := hrel
    have hbx := (hnx.cell (p := ⟨Bs, 0, none⟩) hBn).trans hBs
    cases m with
    | succ j =>
      have hrow' := hrow.below (hW.trans (hnx.mono hB))
      obtain ⟨b, off, rfl, hb, hc⟩ := hrow'.pos (by omega)
      have hjl : j < len := by omega
      obtain ⟨fn, tmps, assign, body, hy, hR⟩ := hY _ ⟨j, hjl⟩ wr hJs (by rw [downs_length]; omega)
      obtain ⟨x, hx⟩ : ∃ x, ws.getD j 0 = x := ⟨_, rfl⟩
      have hcx : wr.cell? ⟨b, off + j, none⟩ = some (.int .u32 (x : Nat)) := hc _ _ (by
        have := hrow.len
        rw [← hx, List.getD_eq_getElem?_getD]; simp [show j < ws.length by omega])
      unfold encD at hy
      dsimp only at hy
      rw [hx] at hy
      have HD : Hid (downs len (k + 1) (by omega) = downs len k (by omega) ++ [⟨j, hjl⟩]) := by
        have := downs_succ len k (by omega)
        have e : len - 1 - k = j := by omega
        simp only [e] at this
        exact this
      clear hc hx
      have e1 : (((j + 1 : Nat) : Int) - 1) = (j : Int) := by omega
      simp only [e1]
      clear e1
      gi_wp2
      refine hR.mono ?_
      rintro e W3 (⟨rfl, hJ3, hk3⟩ | ⟨rfl, hJx3⟩)
      · gi_wp2
        go_roundw
        case rel => exact ⟨k + 1, j, by omega, by omega, rfl, by rw [HD.out]; exact hJ3, hnx.trans hk3⟩
        case measure => simp [intOf]
      · gi_wp2
        refine bodyPost_ret (results_none rfl _ _ _) rfl ?_
        exact ⟨⟨_, rfl⟩, .inr ⟨_, ⟨k + 1, by omega, HD.out.symm⟩, hJx3⟩⟩
    | zero =>
      obtain rfl : k = len := by omega
      gi_wp2
      go_end0
      exact ⟨⟨_, rfl⟩, .inl ⟨_, ⟨by omega, rfl⟩, hJs⟩⟩

end Go.Proofs.Ythpfpnialeoclaa
