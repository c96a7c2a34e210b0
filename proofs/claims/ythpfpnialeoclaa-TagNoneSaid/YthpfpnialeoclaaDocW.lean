/- The document's numbers: their order; a bit. -/
import Derived.Test.YthpfpnialeoclaaTagL
import Derived.Deep.QuietTactic
import Derived.BigQuiet
import Derived.RangeFuncNested
namespace Go.Proofs.Ythpfpnialeoclaa
open Go Go.RowKit Go.Proofs.Ythpfpnialeoclaa.Flow

theorem bit_ge {N i : Nat} (h : blen N ≤ i) : bit N i = false := by
  have h1 : N < 2 ^ i := (blen_le N i).1 h
  unfold bit
  rw [Nat.div_eq_of_lt h1]; rfl

theorem blen_lt_lt {N M : Nat} (h : blen N < blen M) : N < M := by
  rcases Nat.lt_or_ge N M with h1 | h1
  · exact h1
  · have : blen M ≤ blen N := (blen_le M _).2 (Nat.lt_of_le_of_lt h1 (blen_lt N))
    omega

theorem bit_div (N i : Nat) : N / 2 ^ i = 2 * (N / 2 ^ (i + 1)) + (bit N i).toNat := by
  rw [Nat.pow_succ, ← Nat.div_div_eq_div_mul]
  unfold bit
  generalize N / 2 ^ i = z
  by_cases h : z % 2 = 1
  · simp [h]; omega
  · simp [h]; omega

theorem lt_of_bits {N M i : Nat} (h : N / 2 ^ (i + 1) = M / 2 ^ (i + 1)) (h1 : bit N i = false) (h2 : bit M i = true) : N < M := by
  have e1 := bit_div N i
  have e2 := bit_div M i
  rw [h1] at e1
  rw [h2] at e2
  rcases Nat.lt_or_ge N M with h3 | h3
  · exact h3
  · have := Nat.div_le_div_right (c := 2 ^ i) h3
    simp only [Bool.toNat_true, Bool.toNat_false] at e1 e2
    omega

theorem eq_of_bits {N M i : Nat} (h : N / 2 ^ (i + 1) = M / 2 ^ (i + 1)) (h1 : bit N i = bit M i) : N / 2 ^ i = M / 2 ^ i := by
  rw [bit_div N i, bit_div M i, h, h1]

def GivesCmp (N M : Nat) (w : World) (e : Ending) (w' : World) : Prop := e = .returned (.int .i64 (cmpI N M)) ∧ Below w.heap.size w w'

set_option maxHeartbeats 1000000 in
theorem rcmp_calls (w : World) (p : Option Addr) (n c N : Nat) (q : Option Addr) (m d M : Nat) (hA : BitsAt w p n c N) (hB : BitsAt w q m d M) (hn : n ≤ 1000000000) (hm : m ≤ 1000000000) :
    Calls Try.prog 40 #[.slice p n c, .slice q m d] w (GivesCmp N M w) := by
  have hl : n = blen N := by have := hA.len; rwa [bitsOf_length] at this
  have hk : m = blen M := by have := hB.len; rwa [bitsOf_length] at this
  have HN := Lib.hid hl
  have HM := Lib.hid hk
  clear hl hk
  by_cases h1 : n < m
  · have HC : Hid (cmpI N M = -1) := Lib.hid (cmpI_lt (blen_lt_lt (by rw [← HN.out, ← HM.out]; exact h1)))
    go_enter Try.func40, Try.ntmps40
    go_wp2
    go_ret
    exact ⟨by rw [HC.out]; rfl, Below.refl _ _⟩
  by_cases h2 : m < n
  · have HC : Hid (cmpI N M = 1) := Lib.hid (cmpI_gt (blen_lt_lt (by rw [← HN.out, ← HM.out]; exact h2)))
    go_enter Try.func40, Try.ntmps40
    go_wp2
    go_ret
    exact ⟨by rw [HC.out]; rfl, Below.refl _ _⟩
  obtain rfl : n = m := by omega
  clear h1 h2
  have hlt : ¬ (n : Int) < n := by omega
  go_enter Try.func40, Try.ntmps40
  go_wp2
  go_loopw [5] (fun i wr => ∃ k : Nat, k ≤ n ∧ i = .int .i64 ((k : Int) - 1) ∧ Hid (N / 2 ^ k = M / 2 ^ k) ∧ Below w.heap.size w wr) (fun i _ => (intOf i + 1).toNat)
  case atStart =>
    refine ⟨n, Nat.le_refl _, rfl, Lib.hid ?_, Below.refl _ _⟩
    rw [Nat.div_eq_of_lt ((blen_le N n).1 (by rw [← HN.out]; exact Nat.le_refl _)), Nat.div_eq_of_lt ((blen_le M n).1 (by rw [← HM.out]; exact Nat.le_refl _))]
  case round =>
    obtain ⟨k, hk, rfl, hq, hbw⟩ := hrel
    cases k with
    | zero =>
      have HC : Hid (cmpI N M = 0) := Lib.hid (by
        have := hq.out
        rw [Nat.pow_zero, Nat.div_one, Nat.div_one] at this
        rw [this]; exact cmpI_eq _)
      go_wp2
      go_ret
      exact ⟨by rw [HC.out]; rfl, hbw⟩
    | succ k =>
      obtain ⟨b, off, rfl, hb, hc⟩ := hA.pos (by omega)
      obtain ⟨b2, off2, rfl, hb2, hc2⟩ := hB.pos (by omega)
      obtain ⟨x, hx⟩ : ∃ x, bit N k = x := ⟨_, rfl⟩
      obtain ⟨y, hy⟩ : ∃ y, bit M k = y := ⟨_, rfl⟩
      have hcx : wr.cell? ⟨b, off + k, none⟩ = some (.bool x) := by
        rw [(bcell hbw).1 _ _ hb]; exact hc k x (by rw [bitsOf_get (by rw [← HN.out]; omega), hx])
      have hcy : wr.cell? ⟨b2, off2 + k, none⟩ = some (.bool y) := by
        rw [(bcell hbw).1 _ _ hb2]; exact hc2 k y (by rw [bitsOf_get (by rw [← HM.out]; omega), hy])
      have HX := Lib.hid hx
      have HY := Lib.hid hy
      have e1 : (((k + 1 : Nat) : Int) - 1) = (k : Int) := by omega
      simp only [e1]
      clear hc hc2 hx hy e1
      cases x <;> cases y
      · go_wp2
        go_quiet (fail)
        go_wp2
        go_roundw
        case rel => exact ⟨k, by omega, rfl, Lib.hid (eq_of_bits hq.out (by rw [HX.out, HY.out])), below_drewN hbw _⟩
        case measure => simp [intOf]
      · have HC : Hid (cmpI N M = -1) := Lib.hid (cmpI_lt (lt_of_bits hq.out HX.out HY.out))
        go_wp2
        go_quiet (fail)
        go_wp2
        go_ret
        exact ⟨by rw [HC.out]; rfl, below_drewN hbw _⟩
      · have HC : Hid (cmpI N M = 1) := Lib.hid (cmpI_gt (lt_of_bits hq.out.symm HY.out HX.out))
        go_wp2
        go_quiet (fail)
        go_wp2
        go_ret
        exact ⟨by rw [HC.out]; rfl, below_drewN hbw _⟩
      · go_wp2
        go_quiet (fail)
        go_wp2
        go_roundw
        case rel => exact ⟨k, by omega, rfl, Lib.hid (eq_of_bits hq.out (by rw [HX.out, HY.out])), below_drewN hbw _⟩
        case measure => simp [intOf]

set_option maxHeartbeats 1000000 in
theorem at_calls (w : World) (p : Option Addr) (n c N i : Nat) (h : BitsAt w p n c N) (hi : i ≤ 1000000000000) :
    Calls Try.prog 38 #[.slice p n c, .int .i64 i] w fun e w' => e = .returned (.int .i64 ((bit N i).toNat : Nat)) ∧ w = w' := by
  have hl : n = blen N := by have := h.len; rwa [bitsOf_length] at this
  have HN := Lib.hid hl
  clear hl
  by_cases h1 : i < n
  · obtain ⟨b, off, rfl, hb, hc⟩ := h.pos (by omega)
    obtain ⟨x, hx⟩ : ∃ x, bit N i = x := ⟨_, rfl⟩
    have hcx : w.cell? ⟨b, off + i, none⟩ = some (.bool x) := hc i x (by rw [bitsOf_get (by rw [← HN.out]; omega), hx])
    rw [hx]
    clear hc hx
    cases x
    · go_enter Try.func38, Try.ntmps38
      go_wp2
      go_ret
      exact ⟨rfl, rfl⟩
    · go_enter Try.func38, Try.ntmps38
      go_wp2
      go_ret
      exact ⟨rfl, rfl⟩
  · rw [bit_ge (by rw [← HN.out]; omega)]
    go_enter Try.func38, Try.ntmps38
    go_wp2
    go_ret
    exact ⟨rfl, rfl⟩

end Go.Proofs.Ythpfpnialeoclaa
