/- Contracts with the document's products and quotients, as the laws use them. -/
import Derived.Test.YtoleblefdmdbjaaFit4
import Derived.Test.YtoleblefdmdbjaaRefN
namespace Go.Proofs.Ytoleblefdmdbjaa
open Go Go.RowKit Go.Proofs.Ytoleblefdmdbjaa.Flow

theorem rmul_fit {w : World} {v u : Value} {N M : Nat} (h : RBits N v w) (k : RBits M u w) (hN : blen N ≤ 100000) (hM : blen M ≤ 100000) :
    Calls Try.prog 31 #[v, u] w fun en w' => ∃ x, en = .returned x ∧ RBits (N * M) x w' ∧ Below w.heap.size w w' := by
  obtain ⟨p, n, c, rfl, h⟩ := h
  obtain ⟨q, m, d, rfl, k⟩ := k
  refine (rmul_calls w p n c N q m d M h k (by rw [bits_len h]; omega) (by rw [bits_len k]; omega)).mono ?_
  rintro en w' ⟨p, n, c, rfl, hr, hb, _⟩
  exact ⟨_, rfl, RBits.of hr, hb⟩

theorem rdiv_fit {w : World} {v u : Value} {N M : Nat} (h : RBits N v w) (k : RBits M u w) (hN : blen N ≤ 900000) (hM : blen M ≤ 900000) (hM0 : 0 < M) :
    Calls Try.prog 33 #[v, u] w fun en w' => ∃ p n c q m d, en = .returned (.tuple #[.slice p n c, .slice q m d]) ∧ BitsAt w' p n c (N / M) ∧ BitsAt w' q m d (N % M) ∧ Below w.heap.size w w' := by
  obtain ⟨p, n, c, rfl, h⟩ := h
  obtain ⟨q, m, d, rfl, k⟩ := k
  refine (rdiv_calls w p n c N q m d M h k (by rw [bits_len h]; omega) (by rw [bits_len k]; omega) hM0).mono ?_
  rintro en w' ⟨p, n, c, q, m, d, rfl, h1, h2, hb, _, _⟩
  exact ⟨p, n, c, q, m, d, rfl, h1, h2, hb⟩

end Go.Proofs.Ytoleblefdmdbjaa
