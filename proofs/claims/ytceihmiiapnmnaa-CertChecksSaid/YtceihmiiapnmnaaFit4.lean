/- More contracts as the laws use them: division; boxes that a region makes. -/
import Derived.Test.YtceihmiiapnmnaaFit
import Derived.Test.YtceihmiiapnmnaaNatX
import Derived.Test.YtceihmiiapnmnaaNatV
import Derived.Test.YtceihmiiapnmnaaDocW
import Derived.Test.YtceihmiiapnmnaaDiv
/-! Contracts with the document's numbers, as the laws use them. -/
/-! More contracts as the laws use them; of the order of numbers. -/
namespace Go.Proofs.Ytceihmiiapnmnaa
open Go Go.RowKit Go.Proofs.Ytceihmiiapnmnaa.Flow
set_option maxRecDepth 100000

/-- A number's fewest bytes, as a value. -/
def LeastVal (N : Nat) (v : Value) (w : World) : Prop := ∃ q n d, v = .slice q n d ∧ Row w .u8 q n d (beOf N (bsize N))
theorem LeastVal.below {N : Nat} {v : Value} {w w' : World} (h : LeastVal N v w) (hb : Below w.heap.size w w') : LeastVal N v w' :=
  let ⟨q, n, d, h1, h2⟩ := h
  ⟨q, n, d, h1, h2.below hb⟩
theorem zero_fit {w : World} {v : Value} {e N : Nat} (h : Fit e N v w) :
    Calls Try.prog 73 #[v] w fun en w' => ∃ x, en = .returned x ∧ x = .bool (decide (N = 0)) ∧ Below w.heap.size w w' := by
  obtain ⟨p, n, c, rfl, h1, h2⟩ := h
  refine (zero_calls w p n c).mono ?_
  rintro en w' ⟨rfl, hb⟩
  exact ⟨_, rfl, by rw [decide_eq_decide.2 h1.zero], hb⟩

theorem one_fit (w : World) :
    Calls Try.prog 15 #[.int .u64 1] w fun en w' => ∃ x, en = .returned x ∧ Fit 1 1 x w' ∧ Below w.heap.size w w' := by
  refine (new_calls 1 w (by decide)).mono ?_
  rintro en w' ⟨p, n, c, rfl, hn, hb, _⟩
  exact ⟨_, rfl, Fit.of hn (by decide), hb⟩

theorem cmpI_zero {x y : Nat} : cmpI x y = 0 ↔ x = y := by
  unfold cmpI; repeat' split
  all_goals omega
theorem cmpI_pos {x y : Nat} : 0 < cmpI x y ↔ y < x := by
  unfold cmpI; repeat' split
  all_goals omega
end Go.Proofs.Ytceihmiiapnmnaa

namespace Go.Proofs.Ytceihmiiapnmnaa
open Go Go.RowKit Go.Proofs.Ytceihmiiapnmnaa.Flow

theorem bstep {w w1 w2 : World} (h : Below w.heap.size w w1) (k : Below w1.heap.size w1 w2) : Below w.heap.size w w2 := h.trans (k.mono h.size)

theorem lim_blen {e N : Nat} (h : N < B32 e) : blen N ≤ 32 * e := (blen_le N _).2 (by
  have : B32 e = 2 ^ (32 * e) := by unfold B32; rw [Nat.pow_mul]
  rw [← this]; exact h)

/-- A number of the document's, as a value. -/
def RBits (N : Nat) (v : Value) (w : World) : Prop := ∃ q m d, v = .slice q m d ∧ BitsAt w q m d N
theorem RBits.below {N : Nat} {v : Value} {w w' : World} (h : RBits N v w) (hb : Below w.heap.size w w') : RBits N v w' :=
  let ⟨q, m, d, h1, h2⟩ := h
  ⟨q, m, d, h1, h2.below hb⟩
theorem RBits.of {N : Nat} {q : Option Addr} {m d : Nat} {w : World} (h : BitsAt w q m d N) : RBits N (.slice q m d) w := ⟨q, m, d, rfl, h⟩

theorem rcmp_fit {w : World} {v u : Value} {N M : Nat} (h : RBits N v w) (k : RBits M u w) (hN : blen N ≤ 1000000) (hM : blen M ≤ 1000000) :
    Calls Try.prog 46 #[v, u] w fun en w' => ∃ x, en = .returned x ∧ x = .int .i64 (cmpI N M) ∧ Below w.heap.size w w' := by
  obtain ⟨p, n, c, rfl, h⟩ := h
  obtain ⟨q, m, d, rfl, k⟩ := k
  refine (rcmp_calls w p n c N q m d M h k (by rw [bits_len h]; omega) (by rw [bits_len k]; omega)).mono ?_
  rintro en w' ⟨rfl, hb⟩
  exact ⟨_, rfl, rfl, hb⟩

theorem radd_fit {w : World} {v u : Value} {N M : Nat} (h : RBits N v w) (k : RBits M u w) (hN : blen N ≤ 1000000) (hM : blen M ≤ 1000000) :
    Calls Try.prog 67 #[v, u] w fun en w' => ∃ x, en = .returned x ∧ RBits (N + M) x w' ∧ Below w.heap.size w w' := by
  obtain ⟨p, n, c, rfl, h⟩ := h
  obtain ⟨q, m, d, rfl, k⟩ := k
  refine (radd_calls w p n c N q m d M h k (by rw [bits_len h]; omega) (by rw [bits_len k]; omega)).mono ?_
  rintro en w' ⟨p, n, c, rfl, hr, hb, _⟩
  exact ⟨_, rfl, RBits.of hr, hb⟩

theorem rsub_fit {w : World} {v u : Value} {N M : Nat} (h : RBits N v w) (k : RBits M u w) (hN : blen N ≤ 1000000) (hle : M ≤ N) :
    Calls Try.prog 39 #[v, u] w fun en w' => ∃ x, en = .returned x ∧ RBits (N - M) x w' ∧ Below w.heap.size w w' := by
  obtain ⟨p, n, c, rfl, h⟩ := h
  obtain ⟨q, m, d, rfl, k⟩ := k
  refine (rsub_calls w p n c N q m d M h k (by rw [bits_len h]; omega) hle).mono ?_
  rintro en w' ⟨p, n, c, rfl, hr, hb, _⟩
  exact ⟨_, rfl, RBits.of hr, hb⟩

end Go.Proofs.Ytceihmiiapnmnaa

namespace Go.Proofs.Ytceihmiiapnmnaa
open Go Go.RowKit Go.Proofs.Ytceihmiiapnmnaa.Flow

theorem div_fit {w : World} {v u : Value} {e f N M : Nat} (h : Fit e N v w) (k : Fit f M u w) (he : e ≤ 800000) (hf : f ≤ 800000) :
    Calls Try.prog 59 #[v, u] w fun en w' => ∃ x, en = .returned x ∧ (∃ q r, x = .tuple #[q, r, .int .i64 (if M = 0 then 5 else 0)] ∧ Fit e (N / M) q w' ∧ Fit e (if M = 0 then 0 else N % M) r w') ∧ Below w.heap.size w w' := by
  obtain ⟨p, n, c, rfl, h1, h2⟩ := h
  obtain ⟨q, m, d, rfl, k1, k2⟩ := k
  have l1 := h1.len_le h2
  have l2 := k1.len_le k2
  refine (div_calls w p n c N q m d M h1 k1 (by omega) (by omega)).mono ?_
  rintro en w' ⟨p1, n1, c1, p2, n2, c2, rfl, g1, g2, hb, _, _⟩
  refine ⟨_, rfl, ⟨_, _, rfl, Fit.of g1 (Nat.lt_of_le_of_lt (Nat.div_le_self _ _) h2), Fit.of g2 ?_⟩, hb⟩
  split
  · exact B32_pos e
  · exact Nat.lt_of_le_of_lt (Nat.mod_le _ _) h2

/-- A box that a region has made, and what is in it once it is filled. -/
def BoxOf (v : Value) (B N : Nat) (full : Bool) (w : World) : Prop := ∃ b, v = .pointer (some ⟨b, 0, none⟩) ∧ B ≤ b ∧ ∃ p n c, NatBox w b (.slice p n c) ∧ (full = true → NatAt w p n c N)
theorem BoxOf.later {v : Value} {B N : Nat} {full : Bool} {w w' : World} (h : BoxOf v B N full w) (hb : Below w.heap.size w w') : BoxOf v B N full w' :=
  let ⟨b, h1, h2, p, n, c, h3, h4⟩ := h
  ⟨b, h1, h2, p, n, c, h3.below hb h3.lt, fun hf => (h4 hf).below hb⟩
theorem BoxOf.made (w : World) {B : Nat} (hB : B ≤ w.heap.size) (N : Nat) : BoxOf (.pointer (some ⟨w.heap.size, 0, none⟩)) B N false (w.alloc (.cells #[.slice none 0 0] 43)) :=
  ⟨w.heap.size, rfl, hB, none, 0, 0, NatBox.made _ _, fun h => by cases h⟩
theorem NatBox.other {w : World} {b b' : Nat} {u : Value} (h : NatBox w b u) (hne : b ≠ b') (v : Value) : NatBox (w.setCell ⟨b', 0, none⟩ v) b u := by
  unfold NatBox at *
  rw [heap_setCell_other w ⟨b', 0, none⟩ b v (fun e => hne e)]; exact h

/-- Two boxes that a region makes and fills, in whatever order. -/
structure BoxG (B x y : Nat) (d1 d2 f1 f2 : Bool) (v1 v2 : Value) (w : World) : Prop where
  one : d1 = true → BoxOf v1 B x f1 w
  two : d2 = true → BoxOf v2 B y f2 w
  ne : d1 = true → d2 = true → v1 ≠ v2
  size : B ≤ w.heap.size

theorem BoxG.start {B x y : Nat} {f1 f2 : Bool} {v1 v2 : Value} {w : World} (h : B ≤ w.heap.size) : BoxG B x y false false f1 f2 v1 v2 w :=
  ⟨(fun h => by cases h), (fun h => by cases h), (fun h => by cases h), h⟩
theorem BoxG.swap {B x y : Nat} {d1 d2 f1 f2 : Bool} {v1 v2 : Value} {w : World} (h : BoxG B x y d1 d2 f1 f2 v1 v2 w) : BoxG B y x d2 d1 f2 f1 v2 v1 w :=
  ⟨h.two, h.one, fun a b e => h.ne b a e.symm, h.size⟩
theorem BoxG.later {B x y : Nat} {d1 d2 f1 f2 : Bool} {v1 v2 : Value} {w w' : World} (h : BoxG B x y d1 d2 f1 f2 v1 v2 w) (hb : Below w.heap.size w w') : BoxG B x y d1 d2 f1 f2 v1 v2 w' :=
  ⟨fun a => (h.one a).later hb, fun a => (h.two a).later hb, h.ne, Nat.le_trans h.size hb.size⟩
theorem BoxG.alloc1 {B x y : Nat} {d2 f1 f2 : Bool} {v1 v2 : Value} {w : World} (h : BoxG B x y false d2 f1 f2 v1 v2 w) :
    BoxG B x y true d2 false f2 (.pointer (some ⟨w.heap.size, 0, none⟩)) v2 (w.alloc (.cells #[.slice none 0 0] 43)) :=
  ⟨fun _ => BoxOf.made w h.size x, fun a => (h.two a).later ((Below.refl _ _).alloc (Nat.le_refl _) _), fun _ a e => by
    obtain ⟨b, h1, _, p, n, c, h3, _⟩ := h.two a
    have := h3.lt
    rw [h1] at e
    simp only [Value.pointer.injEq, Option.some.injEq, Addr.mk.injEq] at e
    omega, Nat.le_trans h.size (by simp)⟩
theorem BoxG.alloc2 {B x y : Nat} {d1 f1 f2 : Bool} {v1 v2 : Value} {w : World} (h : BoxG B x y d1 false f1 f2 v1 v2 w) :
    BoxG B x y d1 true f1 false v1 (.pointer (some ⟨w.heap.size, 0, none⟩)) (w.alloc (.cells #[.slice none 0 0] 43)) := h.swap.alloc1.swap
theorem BoxG.store1 {B x y : Nat} {d2 f1 f2 : Bool} {v1 v2 : Value} {w : World} {p : Option Addr} {n c : Nat} (h : BoxG B x y true d2 f1 f2 v1 v2 w) (hx : NatAt w p n c x) :
    ∃ b q m d, v1 = .pointer (some ⟨b, 0, none⟩) ∧ B ≤ b ∧ NatBox w b (.slice q m d) ∧ BoxG B x y true d2 true f2 v1 v2 (w.setCell ⟨b, 0, none⟩ (.slice p n c)) := by
  obtain ⟨b, h1, h2, q, m, d, h3, _⟩ := h.one rfl
  refine ⟨b, q, m, d, h1, h2, h3, fun _ => ⟨b, h1, h2, p, n, c, h3.set _, fun _ => hx.store h3 _⟩, fun a => ?_, h.ne, by simpa using h.size⟩
  obtain ⟨b', g1, g2, q', m', d', g3, g4⟩ := h.two a
  have hne : b' ≠ b := fun e => h.ne rfl a (by rw [h1, g1, e])
  exact ⟨b', g1, g2, q', m', d', g3.other hne _, fun hf => (g4 hf).store h3 _⟩
theorem BoxG.store2 {B x y : Nat} {d1 f1 f2 : Bool} {v1 v2 : Value} {w : World} {p : Option Addr} {n c : Nat} (h : BoxG B x y d1 true f1 f2 v1 v2 w) (hy : NatAt w p n c y) :
    ∃ b q m d, v2 = .pointer (some ⟨b, 0, none⟩) ∧ B ≤ b ∧ NatBox w b (.slice q m d) ∧ BoxG B x y d1 true f1 true v1 v2 (w.setCell ⟨b, 0, none⟩ (.slice p n c)) := by
  obtain ⟨b, q, m, d, h1, h2, h3, h4⟩ := h.swap.store1 hy
  exact ⟨b, q, m, d, h1, h2, h3, h4.swap⟩

end Go.Proofs.Ytceihmiiapnmnaa
