/- Contracts with the document's numbers, as the laws use them. -/
import Derived.Test.YtoleblefdmdbjaaFit2
import Derived.Test.YtoleblefdmdbjaaNatX
namespace Go.Proofs.Ytoleblefdmdbjaa
open Go Go.RowKit Go.Proofs.Ytoleblefdmdbjaa.Flow

theorem bstep {w w1 w2 : World} (h : Below w.heap.size w w1) (k : Below w1.heap.size w1 w2) : Below w.heap.size w w2 := h.trans (k.mono h.size)

theorem lim_blen {e N : Nat} (h : N < B32 e) : blen N ≤ 32 * e := (blen_le N _).2 (by
  have : B32 e = 2 ^ (32 * e) := by unfold B32; rw [Nat.pow_mul]
  rw [← this]; exact h)

theorem same_fit {w : World} {v : Value} {e N : Nat} {q : Option Addr} {m d : Nat} (h : Fit e N v w) (k : BitsAt w q m d N) (he : e ≤ 30000) :
    Calls Try.prog 16 #[v, .slice q m d] w fun en w' => ∃ x, en = .returned x ∧ x = .bool true ∧ Below w.heap.size w w' := by
  obtain ⟨p, n, c, rfl, h1, h2⟩ := h
  have l1 := h1.len_le h2
  have l2 := lim_blen h2
  refine (same_calls w p n c N q m d N h1 (by omega) (by omega) k rfl).mono ?_
  rintro en w' ⟨rfl, hb⟩
  exact ⟨_, rfl, rfl, hb⟩

theorem bits_len {w : World} {q : Option Addr} {m d N : Nat} (k : BitsAt w q m d N) : m = blen N := by have := k.len; rwa [bitsOf_length] at this

theorem ref_fit {w : World} {p : Option Addr} {n c : Nat} {bs : List Nat} (h : RowIn w .u8 p n c bs) (hb8 : Bytes8 bs) :
    Calls Try.prog 22 #[.slice p n c] w fun en w' => ∃ q m d, en = .returned (.slice q m d) ∧ BitsAt w' q m d (numOf bs) ∧ Below w.heap.size w w' := by
  refine (ref_calls w p n c bs h hb8).mono ?_
  rintro en w' ⟨q, m, d, rfl, hn, hb, _⟩
  exact ⟨q, m, d, rfl, hn, hb⟩

/-- A number of the document's, as a value. -/
def RBits (N : Nat) (v : Value) (w : World) : Prop := ∃ q m d, v = .slice q m d ∧ BitsAt w q m d N
theorem RBits.below {N : Nat} {v : Value} {w w' : World} (h : RBits N v w) (hb : Below w.heap.size w w') : RBits N v w' :=
  let ⟨q, m, d, h1, h2⟩ := h
  ⟨q, m, d, h1, h2.below hb⟩
theorem RBits.of {N : Nat} {q : Option Addr} {m d : Nat} {w : World} (h : BitsAt w q m d N) : RBits N (.slice q m d) w := ⟨q, m, d, rfl, h⟩

theorem same_fit' {w : World} {v u : Value} {e N : Nat} (h : Fit e N v w) (k : RBits N u w) (he : e ≤ 30000) :
    Calls Try.prog 16 #[v, u] w fun en w' => ∃ x, en = .returned x ∧ x = .bool true ∧ Below w.heap.size w w' := by
  obtain ⟨q, m, d, rfl, k⟩ := k
  exact same_fit h k he

theorem rcmp_fit {w : World} {v u : Value} {N M : Nat} (h : RBits N v w) (k : RBits M u w) (hN : blen N ≤ 1000000) (hM : blen M ≤ 1000000) :
    Calls Try.prog 25 #[v, u] w fun en w' => ∃ x, en = .returned x ∧ x = .int .i64 (cmpI N M) ∧ Below w.heap.size w w' := by
  obtain ⟨p, n, c, rfl, h⟩ := h
  obtain ⟨q, m, d, rfl, k⟩ := k
  refine (rcmp_calls w p n c N q m d M h k (by rw [bits_len h]; omega) (by rw [bits_len k]; omega)).mono ?_
  rintro en w' ⟨rfl, hb⟩
  exact ⟨_, rfl, rfl, hb⟩

theorem radd_fit {w : World} {v u : Value} {N M : Nat} (h : RBits N v w) (k : RBits M u w) (hN : blen N ≤ 1000000) (hM : blen M ≤ 1000000) :
    Calls Try.prog 29 #[v, u] w fun en w' => ∃ x, en = .returned x ∧ RBits (N + M) x w' ∧ Below w.heap.size w w' := by
  obtain ⟨p, n, c, rfl, h⟩ := h
  obtain ⟨q, m, d, rfl, k⟩ := k
  refine (radd_calls w p n c N q m d M h k (by rw [bits_len h]; omega) (by rw [bits_len k]; omega)).mono ?_
  rintro en w' ⟨p, n, c, rfl, hr, hb, _⟩
  exact ⟨_, rfl, RBits.of hr, hb⟩

theorem rsub_fit {w : World} {v u : Value} {N M : Nat} (h : RBits N v w) (k : RBits M u w) (hN : blen N ≤ 1000000) (hle : M ≤ N) :
    Calls Try.prog 27 #[v, u] w fun en w' => ∃ x, en = .returned x ∧ RBits (N - M) x w' ∧ Below w.heap.size w w' := by
  obtain ⟨p, n, c, rfl, h⟩ := h
  obtain ⟨q, m, d, rfl, k⟩ := k
  refine (rsub_calls w p n c N q m d M h k (by rw [bits_len h]; omega) hle).mono ?_
  rintro en w' ⟨p, n, c, rfl, hr, hb, _⟩
  exact ⟨_, rfl, RBits.of hr, hb⟩

end Go.Proofs.Ytoleblefdmdbjaa
