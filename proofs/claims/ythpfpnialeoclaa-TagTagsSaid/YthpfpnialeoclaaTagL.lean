/- The document's number of bytes, the lowest byte first. -/
import Derived.Test.YthpfpnialeoclaaNatO
/-! The document's numbers: without noughts at the end; out of bytes. -/
namespace Go.Proofs.Ythpfpnialeoclaa
open Go Go.RowKit Go.Proofs.Ythpfpnialeoclaa.Flow

theorem bitsUp_get {N L i : Nat} (h : i < L) : (bitsUp N L)[i]? = some (bit N i) := by simp [bitsUp, h]
theorem bitsOf_up (N : Nat) : bitsOf N = bitsUp N (blen N) := rfl
theorem bitsUp_take {N L k : Nat} (h : k ≤ L) : (bitsUp N L).take k = bitsUp N k := by
  apply List.ext_getElem?
  intro i
  rw [List.getElem?_take]
  split
  · rw [bitsUp_get (by omega), bitsUp_get (by omega)]
  · rw [List.getElem?_eq_none (by rw [bitsUp_length]; omega)]

theorem lt_of_bit {N m : Nat} (h : N < 2 ^ (m + 1)) (hb : bit N m = false) : N < 2 ^ m := by
  have h1 := mod_bit N m
  rw [Nat.mod_eq_of_lt h, hb] at h1
  simp only [Bool.false_eq_true, if_false, Nat.add_zero] at h1
  rw [h1]
  exact Nat.mod_lt _ (Nat.pow_pos (by omega))
theorem blen_of_bit {N m : Nat} (h : N < 2 ^ (m + 1)) (hb : bit N m = true) : blen N = m + 1 := by
  refine Nat.le_antisymm ((blen_le N _).2 h) ?_
  refine blen_gt ?_
  unfold bit at hb
  have h3 : N / 2 ^ m % 2 = 1 := by simpa using hb
  generalize N / 2 ^ m = z at *
  omega

/-- The first ones alone. -/
theorem BRow.take {w : World} {p : Option Addr} {n c : Nat} {xs : List Bool} (h : BRow w p n c xs) (m : Nat) (hm : m ≤ n) : BRow w p m c (xs.take m) := by
  have hl := h.len
  refine ⟨by simp; omega, Nat.le_trans hm h.cap, h.max, ?_⟩
  rcases h.at_ with ⟨h1, h2, h3⟩ | ⟨b, off, h1, h2, h3⟩
  · exact .inl ⟨h1, by omega, h3⟩
  · refine .inr ⟨b, off, h1, h2, fun i x hx => h3 i x ?_⟩
    rw [List.getElem?_take] at hx
    split at hx
    · exact hx
    · cases hx

/-- The number's row, in the same memory. -/
def GivesTrimB (N : Nat) (p : Option Addr) (c : Nat) (w : World) (e : Ending) (w' : World) : Prop := ∃ m, e = .returned (.slice p m c) ∧ BitsAt w p m c N ∧ w = w'

set_option maxHeartbeats 1000000 in
theorem trimB_calls (w : World) (p : Option Addr) (n c N : Nat) (h : BRow w p n c (bitsUp N n)) (hN : N < 2 ^ n) :
    Calls Try.prog 39 #[.slice p n c] w (GivesTrimB N p c w) := by
  have hm := h.max
  have hcp := h.cap
  go_enter Try.func39, Try.ntmps39
  go_wp2
  go_loop [0] (fun s => ∃ k : Nat, k ≤ n ∧ s = .slice p k c ∧ Hid (N < 2 ^ k)) (fun s => match s with | .slice _ k _ => k | _ => 0)
  case atStart => exact ⟨n, Nat.le_refl _, rfl, Lib.hid hN⟩
  case round =>
    obtain ⟨k, hk, rfl, hv⟩ := hrel
    cases k with
    | zero =>
      have hN0 : N = 0 := by have := hv.out; simp at this; omega
      have HN := Lib.hid hN0
      clear hN0
      go_wp2
      go_ret
      refine ⟨0, rfl, ?_, rfl⟩
      have := h.take 0 (by omega)
      rw [HN.out]
      exact this
    | succ m =>
      obtain ⟨b, off, rfl, hb, hc⟩ := h.pos (by omega)
      obtain ⟨x, hx⟩ : ∃ x, bit N m = x := ⟨_, rfl⟩
      have hci : w.cell? ⟨b, off + m, none⟩ = some (.bool x) := hc m x (by rw [bitsUp_get (by omega), hx])
      have HX := Lib.hid hx
      clear hc hx
      cases x with
      | false =>
        go_wp2
        go_round
        case rel => exact ⟨m, by omega, rfl, Lib.hid (lt_of_bit hv.out HX.out)⟩
        case measure => simp
      | true =>
        go_wp2
        go_ret
        have e := blen_of_bit hv.out HX.out
        refine ⟨m + 1, rfl, ?_, rfl⟩
        have := h.take (m + 1) hk
        rw [bitsUp_take hk, ← e, ← bitsOf_up] at this
        rw [← e]
        exact this

theorem le_div (xs : List Nat) (h : Bytes8 xs) : ∀ j, le xs / B8 j % 256 = xs.getD j 0 := by
  induction xs with
  | nil => intro j; simp [le]
  | cons x xs ih =>
    have hx : x < 256 := h x (by simp)
    have ih := ih (fun y hy => h y (by simp [hy]))
    intro j
    cases j with
    | zero => simp only [le, B8_zero, Nat.div_one, List.getD_cons_zero]; omega
    | succ j =>
      simp only [le, B8_succ, List.getD_cons_succ]
      rw [← Nat.div_div_eq_div_mul, show (x + 256 * le xs) / 256 = le xs by omega]
      exact ih j

theorem bit_testBit (N i : Nat) : bit N i = N.testBit i := by
  unfold bit; rw [Nat.testBit_eq_decide_div_mod_eq]

theorem bit_byte {N j k x : Nat} (hx : N / B8 j % 256 = x) (hk : k < 8) : bit N (8 * j + k) = decide (x / 2 ^ k % 2 = 1) := by
  show _ = bit x k
  rw [bit_testBit, bit_testBit, ← hx, B8_pow, show (256 : Nat) = 2 ^ 8 from rfl, Nat.testBit_mod_two_pow, Nat.testBit_div_two_pow]
  simp [hk, Nat.add_comm]

end Go.Proofs.Ythpfpnialeoclaa

namespace Go.Proofs.Ythpfpnialeoclaa
open Go Go.RowKit Go.Proofs.Ythpfpnialeoclaa.Flow

theorem bit_le {bs : List Nat} (h : Bytes8 bs) {j k : Nat} (hk : k < 8) : bit (le bs) (8 * j + k) = decide (bs.getD j 0 / 2 ^ k % 2 = 1) :=
  bit_byte (le_div bs h j) hk

set_option maxHeartbeats 1000000 in
set_option maxRecDepth 100000 in
theorem low_calls (w : World) (p : Option Addr) (n c : Nat) (bs : List Nat) (h : RowIn w .u8 p n c bs) (hb8 : Bytes8 bs) (hn : n ≤ 1000) :
    Calls Try.prog 19 #[.slice p n c] w (GivesBits (le bs) w) := by
  obtain ⟨i0, hi, hz0, hz1, hz2⟩ := info_parts Try.info_bool
  have HL := Lib.hid h.len
  have hown := World.ownsRow_made w (base := w.heap.size) (e := 4) (size := 1) #[] 0 (Nat.le_refl _) (by simp [maxLen]) (by simp)
  obtain ⟨N, hN⟩ : ∃ N, le bs = N := ⟨_, rfl⟩
  have HN := Lib.hid hN
  clear hN
  go_enter Try.func19, Try.ntmps19
  go_wp2
  go_loopw [3, 10] (fun v i wr => ∃ j : Nat, j ≤ n ∧ i = .int .i64 j ∧ wr.ownsRow w.heap.size 4 1 v (8 * j) ((bitsUp N (8 * j)).map Value.bool) ∧ Below w.heap.size w wr) (fun _ i _ => n - (intOf i).toNat)
  case atStart =>
    refine ⟨0, by omega, rfl, ?_, (Below.refl _ _).alloc (Nat.le_refl _) _⟩
    simpa [bitsUp] using hown
  case round =>
    obtain ⟨j, hj, rfl, ho, hbw⟩ := hrel
    by_cases hjn : j < n
    · obtain ⟨b, off, rfl, hb, hc⟩ := (h.row (by omega)).pos (by omega)
      obtain ⟨x, hx⟩ : ∃ x, bs.getD j 0 = x := ⟨_, rfl⟩
      have hci : wr.cell? ⟨b, off + j, none⟩ = some (.int .u8 (x : Nat)) := by
        rw [(bcell hbw).1 _ _ hb]
        exact hc j x (by rw [← hx, List.getD_eq_getElem?_getD]; simp [show j < bs.length by have := HL.out; omega])
      have hx8 : x < 256 := by rw [← hx]; exact hb8.get j
      have HX := Lib.hid hx
      clear hc hx
      go_wp2
      go_loopw [3, 5, 6] (fun v y k wr => ∃ q z : Nat, q ≤ 8 ∧ Hid (x / 2 ^ q = z) ∧ z < 256 ∧ y = .int .u8 z ∧ k = .int .i64 q ∧ wr.ownsRow w.heap.size 4 1 v (8 * j + q) ((bitsUp N (8 * j + q)).map Value.bool) ∧ Below w.heap.size w wr) (fun _ _ k _ => 8 - (intOf k).toNat)
      case atStart => exact ⟨0, x, by omega, Lib.hid (by simp), hx8, rfl, rfl, ho, hbw⟩
      case round =>
        obtain ⟨q, z, hq, hz, hz8, rfl, rfl, ho2, hbw2⟩ := hrel
        by_cases hq8 : q < 8
        · have hbt : bit N (8 * j + q) = ((z : Int) % 2 == 1) := by
            rw [← HN.out, bit_le hb8 hq8, HX.out, hz.out, Bool.eq_iff_iff]
            simp only [decide_eq_true_eq, beq_iff_eq]
            omega
          have HB := Lib.hid hbt
          have hz' : Hid (x / 2 ^ (q + 1) = z / 2) := Lib.hid (by rw [Nat.pow_succ, ← Nat.div_div_eq_div_mul, hz.out])
          clear hbt
          go_wp2_with (at_builtin; refine wpList_append_own _ rfl _ _ 45 rfl w.heap.size 4 i0 (.bool false) 1 1 Try.underlying45 hi hz0 hz1 hz2 rfl (by decide) _ _ _ rfl (ho2.alloc _) ⟨wr.heap.size, 0, none⟩ 1 1 [.bool ((z : Int) % 2 == 1)] rfl rfl ?c1 ?c2 ?c3 ?c4 ?c5 ?_)
          case c1 =>
            intro jj u hj
            match jj, hj with
            | 0, hj => simp at hj; subst hj; simp [Addr.add]
          case c2 => intro u hu; simp at hu; subst hu; rfl
          case c3 => unfold maxLen; omega
          case c4 => omega
          case c5 => have := hbw2.size; simp; omega
          intro v' w1 ho' hg _
          have hbw1 : Below w.heap.size w w1 := (hbw2.alloc hbw2.size _).grown hg (by have := hbw2.size; simp; omega) (fun j hj => (ho2.lt j hj).1)
          have ho1 : w1.ownsRow w.heap.size 4 1 v' (8 * j + (q + 1)) ((bitsUp N (8 * j + (q + 1))).map Value.bool) := by
            rw [← Nat.add_assoc, bitsUp_succ, List.map_append, HB.out]; exact ho'
          clear ho' hg ho2
          go_wp2
          go_roundw
          case rel => exact ⟨q + 1, z / 2, by omega, hz', by omega, by simp [Int.natCast_ediv], by go_num, ho1, hbw1⟩
          case measure => simp [intOf]; omega
        · have hq9 : q = 8 := by omega
          subst hq9
          go_wp2
          go_roundw
          case rel => exact ⟨j + 1, by omega, by go_num, ho2, hbw2⟩
          case measure => simp [intOf]; omega
    · have hjn' : j = n := by omega
      subst hjn'
      obtain ⟨q, d, rfl, hrow, hnew⟩ := BRow.of_owns ho
      have hlt : N < 2 ^ (8 * j) := by
        have := hb8.lt
        rw [← HN.out]
        rw [B8_pow, ← HL.out] at this
        exact this
      have HLT := Lib.hid hlt
      clear hlt
      go_wp2_with fail
      refine (trimB_calls wr q (8 * j) d N hrow HLT.out).mono ?_
      rintro e w1 ⟨m, rfl, hm, rfl⟩
      go_wp2
      go_ret
      rw [HN.out]
      exact ⟨q, m, d, rfl, hm, hbw, hnew⟩

end Go.Proofs.Ythpfpnialeoclaa
