/- A byte that came in. -/
import Derived.Test.YthpfpnialeoclaaGen
namespace Go.Proofs.Ythpfpnialeoclaa
open Go Go.RowKit
theorem nat_of_u8 {n : Int} (h : (Lit.int .u8 n).wf = true) : ∃ k : Nat, n = (k : Int) ∧ k < 256 := by
  simp only [Lit.wf, Bool.and_eq_true, decide_eq_true_eq] at h
  have h1 : IntKind.u8.min = 0 := by decide
  have h2 : IntKind.u8.max = 255 := by decide
  obtain ⟨k, hk⟩ := Int.eq_ofNat_of_zero_le (show 0 ≤ n by omega)
  exact ⟨k, hk, by omega⟩
end Go.Proofs.Ythpfpnialeoclaa
