/- Whether bytes are the same. -/
import Derived.Test.YtpphjgljoapfpaaDoorMacM
import Derived.Test.YtpphjgljoapfpaaDoorShaT
import Derived.Laws.BitsAllLaws
import Derived.Deep.QuietTactic
import Derived.BigQuiet
namespace Go.Proofs.YtpphjgljoapfpaaDoor
open Go Go.RowKit

/-- What the program lays up of unlike bytes. -/
def unl (a b : List Nat) : Nat → Nat
  | 0 => 0
  | k + 1 => unl a b k ||| (a.getD k 0 ^^^ b.getD k 0)

theorem unl_lt {a b : List Nat} (ha : Bytes8 a) (hb : Bytes8 b) : ∀ k, unl a b k < 256
  | 0 => by simp [unl]
  | k + 1 => Nat.or_lt_two_pow (n := 8) (unl_lt ha hb k) (Nat.xor_lt_two_pow (n := 8) (ha.get k) (hb.get k))

theorem xor_zero (x y : Nat) : x ^^^ y = 0 ↔ x = y := by
  refine ⟨fun h => Nat.eq_of_testBit_eq fun i => ?_, fun h => by rw [h, Nat.xor_self]⟩
  have h1 := congrArg (fun z => z.testBit i) h
  simp only [Nat.testBit_xor, Nat.zero_testBit] at h1
  cases hx : x.testBit i <;> cases hy : y.testBit i <;> simp [hx, hy] at h1 ⊢

theorem unl_zero {a b : List Nat} : ∀ k, unl a b k = 0 ↔ ∀ i, i < k → a.getD i 0 = b.getD i 0
  | 0 => by simp [unl]
  | k + 1 => by
    rw [unl, Nat.or_eq_zero_iff, unl_zero k, xor_zero]
    refine ⟨fun h i hi => ?_, fun h => ⟨fun i hi => h i (by omega), h k (by omega)⟩⟩
    rcases Nat.lt_or_ge i k with h1 | h1
    · exact h.1 i h1
    · obtain rfl : i = k := by omega
      exact h.2

theorem unl_all {a b : List Nat} (h : a.length = b.length) : unl a b a.length = 0 ↔ a = b := by
  rw [unl_zero]
  refine ⟨fun h1 => ?_, fun h1 => by intro i _; rw [h1]⟩
  apply List.ext_getElem h
  intro i h2 h3
  have := h1 i h2
  simpa [List.getD_eq_getElem?_getD, h2, h3] using this

set_option maxHeartbeats 2000000 in
theorem same_calls (w : World) (p q : Option Addr) (n c m d : Nat) (xa xb : List Nat) (ha : RowIn w .u8 p n c xa) (hb : RowIn w .u8 q m d xb) (ha8 : Bytes8 xa) (hb8 : Bytes8 xb) :
    Calls Tryd.prog 33 #[.slice p n c, .slice q m d] w fun e w' => e = .returned (.bool (decide (xa = xb))) ∧ Below w.heap.size w w' := by
  have HA : Hold (RowIn w .u8 p n c xa) := ⟨ha⟩
  have HB : Hold (RowIn w .u8 q m d xb) := ⟨hb⟩
  have HAl : Hold (n = xa.length) := ⟨ha.len⟩
  have HBl : Hold (m = xb.length) := ⟨hb.len⟩
  have H8 : Hold (Bytes8 xa ∧ Bytes8 xb) := ⟨ha8, hb8⟩
  have mx := ha.max
  have mc := ha.cap
  have my := hb.max
  have md := hb.cap
  clear ha hb ha8 hb8
  by_cases hnm : n = m
  · subst hnm
    go_enter Tryd.func33, Tryd.ntmps33
    go_wp2
    go_loopw [5, 14] (fun u i wr => ∃ k z : Nat, k ≤ n ∧ i = .int .i64 k ∧ Hold (unl xa xb k = z) ∧ u = .int .u8 z ∧ z < 256 ∧ Below w.heap.size w wr) (fun _ i _ => n - (intOf i).toNat)
    case atStart => exact ⟨0, 0, by omega, rfl, ⟨rfl⟩, rfl, by omega, Below.refl _ _⟩
    case round =>
      obtain ⟨k, z, hk, rfl, HZ, rfl, hz, hbel⟩ := hrel
      by_cases hkn : k < n
      · obtain ⟨b1, o1, rfl, hb1, hc1⟩ := (HA.out.row (by omega)).pos (by omega)
        obtain ⟨b2, o2, rfl, hb2, hc2⟩ := (HB.out.row (by omega)).pos (by omega)
        obtain ⟨x, hx⟩ : ∃ x, xa.getD k 0 = x := ⟨_, rfl⟩
        obtain ⟨y, hy⟩ : ∃ y, xb.getD k 0 = y := ⟨_, rfl⟩
        have hx8 : x < 256 := by rw [← hx]; exact H8.out.1.get k
        have hy8 : y < 256 := by rw [← hy]; exact H8.out.2.get k
        have c1 : wr.cell? ⟨b1, o1 + k, none⟩ = some (.int .u8 (x : Nat)) := by
          rw [(bcell hbel).1 _ _ hb1]
          exact hc1 k x (by rw [← hx, List.getD_eq_getElem?_getD, List.getElem?_eq_getElem (by have := HAl.out; omega)]; rfl)
        have c2 : wr.cell? ⟨b2, o2 + k, none⟩ = some (.int .u8 (y : Nat)) := by
          rw [(bcell hbel).1 _ _ hb2]
          exact hc2 k y (by rw [← hy, List.getD_eq_getElem?_getD, List.getElem?_eq_getElem (by have := HBl.out; omega)]; rfl)
        have F1 := u8_xor_nat x y hx8 hy8
        have F2 := u8_or_nat z (x ^^^ y) hz (Nat.xor_lt_two_pow (n := 8) hx8 hy8)
        have HN : Hold (unl xa xb (k + 1) = z ||| (x ^^^ y)) := ⟨by rw [unl, HZ.out, hx, hy]⟩
        have hlt : z ||| (x ^^^ y) < 256 := Nat.or_lt_two_pow (n := 8) hz (Nat.xor_lt_two_pow (n := 8) hx8 hy8)
        have HBE : Hold (Below w.heap.size w wr) := ⟨hbel⟩
        have hkn' : (k : Int) < n := by omega
        clear hc1 hc2 hx hy hbel
        go_wp2
        go_quiet (fail)
        go_wp2
        go_roundw
        case rel => exact ⟨k + 1, z ||| (x ^^^ y), by omega, by go_num, HN, rfl, hlt, below_drewN HBE.out _⟩
        case measure => simp [intOf]; omega
      · obtain rfl : k = n := by omega
        have hdec : decide (xa = xb) = ((z : Int) == 0) := by
          have h1 := unl_all (a := xa) (b := xb) (by have := HAl.out; have := HBl.out; omega)
          have h2 := HZ.out
          rw [HAl.out] at h2
          rw [h2] at h1
          rw [Bool.eq_iff_iff, decide_eq_true_iff, beq_iff_eq, ← h1]
          omega
        go_wp2
        go_ret
        exact ⟨by rw [hdec]; rfl, hbel⟩
  · have hne : xa ≠ xb := fun e => hnm (by have h1 := HAl.out; have h2 := HBl.out; rw [h1, h2, e])
    have hd : decide (xa = xb) = false := by simpa using hne
    rw [hd]
    have hnm' : ¬ (n : Int) = m := by omega
    go_enter Tryd.func33, Tryd.ntmps33
    go_wp2
    go_ret
    exact ⟨rfl, Below.refl _ _⟩
end Go.Proofs.YtpphjgljoapfpaaDoor
