/- The document's numbers: without noughts at the end; out of bytes. -/
import Derived.Test.YtoleblefdmdbjaaNatP
import Derived.Test.YtoleblefdmdbjaaNatI
namespace Go.Proofs.Ytoleblefdmdbjaa
open Go Go.RowKit Go.Proofs.Ytoleblefdmdbjaa.Flow

theorem bitsUp_get {N L i : Nat} (h : i < L) : (bitsUp N L)[i]? = some (bit N i) := by simp [bitsUp, h]
theorem bitsOf_up (N : Nat) : bitsOf N = bitsUp N (blen N) := rfl
theorem bitsUp_take {N L k : Nat} (h : k ≤ L) : (bitsUp N L).take k = bitsUp N k := by
  apply List.ext_getElem?
  intro i
  rw [List.getElem?_take]
  split
  · rw [bitsUp_get (by omega), bitsUp_get (by omega)]
  · rw [List.getElem?_eq_none (by rw [bitsUp_length]; omega)]

theorem lt_of_bit {N m : Nat} (h : N < 2 ^ (m + 1)) (hb : bit N m = false) : N < 2 ^ m := by
  have h1 := mod_bit N m
  rw [Nat.mod_eq_of_lt h, hb] at h1
  simp only [Bool.false_eq_true, if_false, Nat.add_zero] at h1
  rw [h1]
  exact Nat.mod_lt _ (Nat.pow_pos (by omega))
theorem blen_of_bit {N m : Nat} (h : N < 2 ^ (m + 1)) (hb : bit N m = true) : blen N = m + 1 := by
  refine Nat.le_antisymm ((blen_le N _).2 h) ?_
  refine blen_gt ?_
  unfold bit at hb
  have h3 : N / 2 ^ m % 2 = 1 := by simpa using hb
  generalize N / 2 ^ m = z at *
  omega

/-- The first ones alone. -/
theorem BRow.take {w : World} {p : Option Addr} {n c : Nat} {xs : List Bool} (h : BRow w p n c xs) (m : Nat) (hm : m ≤ n) : BRow w p m c (xs.take m) := by
  have hl := h.len
  refine ⟨by simp; omega, Nat.le_trans hm h.cap, h.max, ?_⟩
  rcases h.at_ with ⟨h1, h2, h3⟩ | ⟨b, off, h1, h2, h3⟩
  · exact .inl ⟨h1, by omega, h3⟩
  · refine .inr ⟨b, off, h1, h2, fun i x hx => h3 i x ?_⟩
    rw [List.getElem?_take] at hx
    split at hx
    · exact hx
    · cases hx

/-- The number's row, in the same memory. -/
def GivesTrimB (N : Nat) (p : Option Addr) (c : Nat) (w : World) (e : Ending) (w' : World) : Prop := ∃ m, e = .returned (.slice p m c) ∧ BitsAt w p m c N ∧ w = w'

set_option maxHeartbeats 1000000 in
theorem trimB_calls (w : World) (p : Option Addr) (n c N : Nat) (h : BRow w p n c (bitsUp N n)) (hN : N < 2 ^ n) :
    Calls Try.prog 60 #[.slice p n c] w (GivesTrimB N p c w) := by
  have hm := h.max
  have hcp := h.cap
  go_enter Try.func60, Try.ntmps60
  go_wp2
  go_loop [0] (fun s => ∃ k : Nat, k ≤ n ∧ s = .slice p k c ∧ Hid (N < 2 ^ k)) (fun s => match s with | .slice _ k _ => k | _ => 0)
  case atStart => exact ⟨n, Nat.le_refl _, rfl, Lib.hid hN⟩
  case round =>
    obtain ⟨k, hk, rfl, hv⟩ := hrel
    cases k with
    | zero =>
      have hN0 : N = 0 := by have := hv.out; simp at this; omega
      have HN := Lib.hid hN0
      clear hN0
      go_wp2
      go_ret
      refine ⟨0, rfl, ?_, rfl⟩
      have := h.take 0 (by omega)
      rw [HN.out]
      exact this
    | succ m =>
      obtain ⟨b, off, rfl, hb, hc⟩ := h.pos (by omega)
      obtain ⟨x, hx⟩ : ∃ x, bit N m = x := ⟨_, rfl⟩
      have hci : w.cell? ⟨b, off + m, none⟩ = some (.bool x) := hc m x (by rw [bitsUp_get (by omega), hx])
      have HX := Lib.hid hx
      clear hc hx
      cases x with
      | false =>
        go_wp2
        go_round
        case rel => exact ⟨m, by omega, rfl, Lib.hid (lt_of_bit hv.out HX.out)⟩
        case measure => simp
      | true =>
        go_wp2
        go_ret
        have e := blen_of_bit hv.out HX.out
        refine ⟨m + 1, rfl, ?_, rfl⟩
        have := h.take (m + 1) hk
        rw [bitsUp_take hk, ← e, ← bitsOf_up] at this
        rw [← e]
        exact this

theorem le_div (xs : List Nat) (h : Bytes8 xs) : ∀ j, le xs / B8 j % 256 = xs.getD j 0 := by
  induction xs with
  | nil => intro j; simp [le]
  | cons x xs ih =>
    have hx : x < 256 := h x (by simp)
    have ih := ih (fun y hy => h y (by simp [hy]))
    intro j
    cases j with
    | zero => simp only [le, B8_zero, Nat.div_one, List.getD_cons_zero]; omega
    | succ j =>
      simp only [le, B8_succ, List.getD_cons_succ]
      rw [← Nat.div_div_eq_div_mul, show (x + 256 * le xs) / 256 = le xs by omega]
      exact ih j

theorem bit_testBit (N i : Nat) : bit N i = N.testBit i := by
  unfold bit; rw [Nat.testBit_eq_decide_div_mod_eq]

theorem bit_byte {N j k x : Nat} (hx : N / B8 j % 256 = x) (hk : k < 8) : bit N (8 * j + k) = decide (x / 2 ^ k % 2 = 1) := by
  show _ = bit x k
  rw [bit_testBit, bit_testBit, ← hx, B8_pow, show (256 : Nat) = 2 ^ 8 from rfl, Nat.testBit_mod_two_pow, Nat.testBit_div_two_pow]
  simp [hk, Nat.add_comm]

end Go.Proofs.Ytoleblefdmdbjaa
