/- Contracts as the laws use them. -/
import Derived.Test.YthpfpnialeoclaaNatK
import Derived.Test.YthpfpnialeoclaaNatO
import Derived.Test.YthpfpnialeoclaaNatN
import Derived.Test.YthpfpnialeoclaaTagTags
import Derived.Test.YthpfpnialeoclaaNatI
import Derived.Test.YthpfpnialeoclaaNatE
import Derived.Test.YthpfpnialeoclaaNatG
import Derived.Test.YthpfpnialeoclaaFlowS
import Derived.Laws.BytesArg
/-! A number's fewest bytes. -/
namespace Go.Proofs.Ythpfpnialeoclaa
open Go Go.RowKit Go.Proofs.Ythpfpnialeoclaa.Flow

/-- A row of bytes in new memory. -/
def BytesVal (bs : List Nat) (B : Nat) (v : Value) (w : World) : Prop := ∃ q n d, v = .slice q n d ∧ Row w .u8 q n d bs ∧ New B q
theorem BytesVal.below {bs : List Nat} {B : Nat} {v : Value} {w w' : World} (h : BytesVal bs B v w) (hb : Below w.heap.size w w') : BytesVal bs B v w' :=
  let ⟨q, n, d, h1, h2, h3⟩ := h
  ⟨q, n, d, h1, h2.below hb, h3⟩


end Go.Proofs.Ythpfpnialeoclaa

namespace Go.Proofs.Ythpfpnialeoclaa
open Go Go.RowKit Go.Proofs.Ythpfpnialeoclaa.Flow

/-- A number below so many words, as a value. -/
def Fit (e N : Nat) (v : Value) (w : World) : Prop := ∃ p n c, v = .agg #[.slice p n c] ∧ NatAt w p n c N ∧ N < B32 e
theorem Fit.below {e N : Nat} {v : Value} {w w' : World} (h : Fit e N v w) (hb : Below w.heap.size w w') : Fit e N v w' :=
  let ⟨p, n, c, h1, h2, h3⟩ := h
  ⟨p, n, c, h1, h2.below hb, h3⟩
theorem Fit.of {e N p n c} {w : World} (h : NatAt w p n c N) (hN : N < B32 e) : Fit e N (.agg #[.slice p n c]) w := ⟨p, n, c, rfl, h, hN⟩
theorem Fit.lim {e N : Nat} {v : Value} {w : World} (h : Fit e N v w) : N < B32 e := let ⟨_, _, _, _, _, h3⟩ := h; h3

theorem lim_add {e f N M : Nat} (h : N < B32 e) (k : M < B32 f) : N + M < B32 (e + f + 1) := by
  have h1 : B32 e ≤ B32 (e + f) := B32_mono (by omega)
  have h2 : B32 f ≤ B32 (e + f) := B32_mono (by omega)
  rw [B32_succ]; omega
theorem lim_mul {e f N M : Nat} (h : N < B32 e) (k : M < B32 f) : N * M < B32 (e + f) := by
  rw [B32_add]
  exact Nat.mul_lt_mul'' h k

theorem add_fit {w : World} {v u : Value} {e f N M : Nat} (h : Fit e N v w) (k : Fit f M u w) (he : e ≤ 900000) (hf : f ≤ 900000) :
    Calls Try.prog 14 #[v, u] w fun en w' => ∃ x, en = .returned x ∧ Fit (e + f + 1) (N + M) x w' ∧ Below w.heap.size w w' := by
  obtain ⟨p, n, c, rfl, h1, h2⟩ := h
  obtain ⟨q, m, d, rfl, k1, k2⟩ := k
  have l1 := h1.len_le h2
  have l2 := k1.len_le k2
  refine (add_calls w p n c N q m d M h1 k1 (by omega) (by omega)).mono ?_
  rintro en w' ⟨r, l, g, rfl, hr, hb, _⟩
  exact ⟨_, rfl, Fit.of hr (lim_add h2 k2), hb⟩

theorem mul_fit {w : World} {v u : Value} {e f N M : Nat} (h : Fit e N v w) (k : Fit f M u w) (he : e ≤ 900000) (hf : f ≤ 900000) :
    Calls Try.prog 33 #[v, u] w fun en w' => ∃ x, en = .returned x ∧ Fit (e + f) (N * M) x w' ∧ Below w.heap.size w w' := by
  obtain ⟨p, n, c, rfl, h1, h2⟩ := h
  obtain ⟨q, m, d, rfl, k1, k2⟩ := k
  have l1 := h1.len_le h2
  have l2 := k1.len_le k2
  refine (mul_calls w p n c N q m d M h1 k1 (by omega) (by omega)).mono ?_
  rintro en w' ⟨r, l, g, rfl, hr, hb, _⟩
  exact ⟨_, rfl, Fit.of hr (lim_mul h2 k2), hb⟩

theorem cmp_fit {w : World} {v u : Value} {e f N M : Nat} (h : Fit e N v w) (k : Fit f M u w) (he : e ≤ 900000) (hf : f ≤ 900000) :
    Calls Try.prog 41 #[v, u] w fun en w' => ∃ x, en = .returned x ∧ x = .int .i64 (cmpI N M) ∧ Below w.heap.size w w' := by
  obtain ⟨p, n, c, rfl, h1, h2⟩ := h
  obtain ⟨q, m, d, rfl, k1, k2⟩ := k
  have l1 := h1.len_le h2
  have l2 := k1.len_le k2
  refine (cmp_calls w p q n c N m d M h1 k1 (by omega) (by omega)).mono ?_
  rintro en w' ⟨rfl, hb⟩
  exact ⟨_, rfl, rfl, hb⟩

theorem sub_fit {w : World} {v u : Value} {e f N M : Nat} (h : Fit e N v w) (k : Fit f M u w) (he : e ≤ 900000) (hf : f ≤ 900000) :
    Calls Try.prog 26 #[v, u] w fun en w' => ∃ x, en = .returned (.tuple #[x, .bool (decide (M ≤ N))]) ∧ Fit e (N - M) x w' ∧ Below w.heap.size w w' := by
  obtain ⟨p, n, c, rfl, h1, h2⟩ := h
  obtain ⟨q, m, d, rfl, k1, k2⟩ := k
  have l1 := h1.len_le h2
  have l2 := k1.len_le k2
  refine (sub_calls w p n c N q m d M h1 k1 (by omega) (by omega)).mono ?_
  rintro en w' ⟨r, l, g, rfl, hr, hb, _⟩
  exact ⟨_, rfl, Fit.of hr (by omega), hb⟩

/-- Cells that are kept. -/
structure Cells (w w' : World) (l : List (Addr × Value)) : Prop where
  bel : Below w.heap.size w w'
  lt : ∀ x ∈ l, x.1.block < w.heap.size
  at_ : ∀ x ∈ l, w'.cell? x.1 = some x.2

theorem Cells.later {w w' w1 : World} {l : List (Addr × Value)} (h : Cells w w' l) (hb : Below w'.heap.size w' w1) : Cells w w1 l :=
  ⟨h.bel.trans (hb.mono h.bel.size), h.lt, fun x hx => by
    have h1 := h.lt x hx
    have h2 := h.bel.size
    rw [hb.cell (p := x.1) (by omega)]; exact h.at_ x hx⟩

theorem Cells.start {w w' : World} {l : List (Addr × Value)} (hb : Below w.heap.size w w') (h1 : ∀ x ∈ l, x.1.block < w.heap.size) (h2 : ∀ x ∈ l, w.cell? x.1 = some x.2) : Cells w w' l :=
  ⟨hb, h1, fun x hx => by rw [hb.cell (p := x.1) (h1 x hx)]; exact h2 x hx⟩

/-- How a region that stores into a box goes on. -/
structure Keep (B : Nat) (w w' : World) : Prop where
  bel : Below B w w'
  nat : ∀ p n c N, NatAt w p n c N → NatAt w' p n c N

theorem Keep.of {B : Nat} {w w' : World} (h : Below w.heap.size w w') (hB : B ≤ w.heap.size) : Keep B w w' := ⟨h.mono hB, fun _ _ _ _ k => k.below h⟩
theorem Fit.keep {e N B : Nat} {v : Value} {w w' : World} (h : Fit e N v w) (k : Keep B w w') : Fit e N v w' :=
  let ⟨p, n, c, h1, h2, h3⟩ := h
  ⟨p, n, c, h1, k.nat _ _ _ _ h2, h3⟩

/-- A box of a number. -/
def NatBox (w : World) (b : Nat) (u : Value) : Prop := w.heap[b]? = some (.cells #[u] 32 (0, 0))
theorem NatBox.below {w w' : World} {b B : Nat} {u : Value} (h : NatBox w b u) (hb : Below B w w') (hB : b < B) : NatBox w' b u := by
  unfold NatBox at *; rw [hb.block b hB]; exact h
theorem NatBox.cell {w : World} {b : Nat} {u : Value} (h : NatBox w b u) : w.cell? ⟨b, 0, none⟩ = some u := by
  unfold NatBox at h; simp [World.cell?, h]
theorem NatBox.free {w : World} {b : Nat} {u : Value} (h : NatBox w b u) : w.frozen? ⟨b, 0, none⟩ = false := by
  unfold NatBox at h; simp [World.frozen?, h]
theorem NatBox.lt {w : World} {b : Nat} {u : Value} (h : NatBox w b u) : b < w.heap.size := (Array.getElem?_eq_some_iff.1 h).1
theorem NatBox.set {w : World} {b : Nat} {u : Value} (h : NatBox w b u) (v : Value) : NatBox (w.setCell ⟨b, 0, none⟩ v) b v := by
  unfold NatBox at *
  simp [World.setCell, Array.getElem?_modify, h]
theorem NatBox.made (w : World) (u : Value) : NatBox (w.alloc (.cells #[u] 32)) w.heap.size u := by
  show (w.heap.push _)[w.heap.size]? = _
  simp

theorem NatAt.store {w : World} {p : Option Addr} {n c N b m d : Nat} {q : Option Addr} (h : NatAt w p n c N) (hb : NatBox w b (.slice q m d)) (v : Value) : NatAt (w.setCell ⟨b, 0, none⟩ v) p n c N := by
  obtain ⟨ws, r1, r2, r3, r4⟩ := h.ex
  rcases Nat.eq_zero_or_pos n with h0 | h0
  · refine ⟨ws, ⟨r1.len, r1.cap, r1.max, ?_⟩, r2, r3, r4⟩
    rcases r1.at_ with k | ⟨b', off, k1, k2, _⟩
    · exact .inl k
    · refine .inr ⟨b', off, k1, by simpa using k2, fun i x hx => ?_⟩
      have : ws = [] := List.eq_nil_of_length_eq_zero (by rw [← r1.len]; exact h0)
      rw [this] at hx; cases hx
  · refine h.setCell (a := ⟨b, 0, none⟩) ?_ v
    intro a ha hab
    obtain ⟨b', off, k1, k2, k3⟩ := r1.pos h0
    rw [k1] at ha; cases ha
    have hbb : b' = b := hab
    subst hbb
    have h1 := k3 0 (ws.getD 0 0) (by rw [List.getD_eq_getElem?_getD]; simp [show 0 < ws.length by rw [← r1.len]; exact h0])
    unfold NatBox at hb
    simp only [World.cell?, hb, Nat.add_zero] at h1
    cases off with
    | zero => simp at h1
    | succ k => simp at h1

theorem Keep.store {B : Nat} {w : World} {b m d : Nat} {q : Option Addr} (hb : NatBox w b (.slice q m d)) (hB : B ≤ b) (v : Value) : Keep B w (w.setCell ⟨b, 0, none⟩ v) :=
  ⟨(Below.refl _ _).setCell hB _, fun _ _ _ _ k => k.store hb v⟩

end Go.Proofs.Ythpfpnialeoclaa
