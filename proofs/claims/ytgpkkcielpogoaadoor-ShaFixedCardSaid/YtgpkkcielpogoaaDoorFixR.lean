/- The document's root. -/
import Derived.Test.YtgpkkcielpogoaaDoorFixF
namespace Go.Proofs.YtgpkkcielpogoaaDoor
open Go Go.RowKit

/-- The bit that is tried. -/
def rbit (j : Nat) : Nat := 68719476736 / 2 ^ j
theorem rbit_end : rbit 37 = 0 := by decide
theorem rbit_pos {j : Nat} (h : j < 37) : 0 < rbit j := by
  unfold rbit
  refine Nat.div_pos ?_ (Nat.pow_pos (by omega))
  have : 2 ^ j ≤ 2 ^ 36 := Nat.pow_le_pow_right (by omega) (by omega)
  simpa using this
theorem rbit_step (j : Nat) : rbit (j + 1) = rbit j / 2 := by
  unfold rbit
  rw [Nat.pow_succ, Nat.div_div_eq_div_mul]
theorem rbit_le (j : Nat) : rbit j ≤ 68719476736 := Nat.div_le_self _ _
theorem froot_step (p e j : Nat) : froot p e (j + 1) = if ffits ((froot p e j + rbit j) % 18446744073709551616) p e then (froot p e j + rbit j) % 18446744073709551616 else froot p e j := rfl

set_option maxHeartbeats 4000000 in
set_option maxRecDepth 100000 in
theorem root_calls (w : World) (p e : Nat) (he : e ≤ 10) :
    Calls Tryd.prog 18 #[.int .u64 p, .int .i64 e] w fun r w' => r = .returned (.int .u32 (root p e : Nat)) ∧ Below w.heap.size w w' := by
  have HR : Hold (froot p e 37 % 4294967296 = root p e) := ⟨rfl⟩
  obtain ⟨B, hB⟩ : ∃ B, w.heap.size = B := ⟨_, rfl⟩
  have HB : Hold (Below B w w) := ⟨Below.refl B w⟩
  have hBz : B ≤ w.heap.size := by omega
  rw [hB]
  clear hB
  go_enter Tryd.func18, Tryd.ntmps18
  go_wp2
  go_loopw [5, 6] (fun xv bv w1 => ∃ j : Nat, j ≤ 37 ∧ xv = .int .u64 (froot p e j : Nat) ∧ bv = .int .u64 (rbit j : Nat) ∧ Hold (Below B w w1) ∧ w.heap.size ≤ w1.heap.size) (fun _ bv _ => (intOf bv).toNat)
  case atStart => exact ⟨0, by omega, rfl, rfl, HB, Nat.le_refl _⟩
  case round =>
    obtain ⟨j, hj, rfl, rfl, HW, hz⟩ := hrel
    by_cases hj37 : j < 37
    · have hpos := rbit_pos hj37
      have hle := rbit_le j
      have hxl := froot_lt p e j
      have hst : Hold (froot p e (j + 1) = if ffits ((froot p e j + rbit j) % 18446744073709551616) p e then (froot p e j + rbit j) % 18446744073709551616 else froot p e j) := ⟨froot_step p e j⟩
      have hbs : Hold (rbit (j + 1) = rbit j / 2) := ⟨rbit_step j⟩
      generalize froot p e j = x at *
      generalize rbit j = b at *
      obtain ⟨y, hy⟩ : ∃ y, (x + b) % 18446744073709551616 = y := ⟨_, rfl⟩
      rw [hy] at hst
      have hyl : y < 18446744073709551616 := by omega
      have w1 : IntKind.u64.wrap ((x : Int) + b) = (y : Int) := by rw [IntKind.wrap_u64, ← hy]; simp
      clear hy
      go_wp2_with fail
      refine (fits_calls _ y p e hyl he).mono ?_
      rintro r w2 ⟨rfl, hb⟩
      have HW2 : Hold (Below B w w2) := ⟨HW.out.trans (hb.mono (by omega))⟩
      have hz2 := hb.size
      clear hb
      cases hf : ffits y p e with
      | true =>
        rw [hf] at hst
        go_wp2
        go_roundw
        case rel => exact ⟨j + 1, by omega, by rw [hst.out]; rfl, by rw [hbs.out]; rfl, HW2, by omega⟩
        case measure => simp only [intOf]; omega
      | false =>
        rw [hf] at hst
        go_wp2
        go_roundw
        case rel => exact ⟨j + 1, by omega, by rw [hst.out]; rfl, by rw [hbs.out]; rfl, HW2, by omega⟩
        case measure => simp only [intOf]; omega
    · obtain rfl : j = 37 := by omega
      have h0 := rbit_end
      go_wp2
      go_ret
      exact ⟨by rw [← HR.out]; rfl, HW.out⟩
end Go.Proofs.YtgpkkcielpogoaaDoor
