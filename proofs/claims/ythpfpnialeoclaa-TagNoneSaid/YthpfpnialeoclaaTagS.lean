/- tag: how the loop over a message's numbers stands. -/
import Derived.Test.YthpfpnialeoclaaTagK
import Derived.Test.YthpfpnialeoclaaTagG
import Derived.Test.YthpfpnialeoclaaTagX
namespace Go.Proofs.Ythpfpnialeoclaa
open Go Go.RowKit Go.Proofs.Ythpfpnialeoclaa.Flow

/-- The number behind k parts. -/
def acc (R : Nat) (xs : List Nat) : Nat → Nat
  | 0 => 0
  | k + 1 => (acc R xs k + le (piece xs k ++ [1])) * R % pp
theorem acc_lt (R : Nat) (xs : List Nat) (k : Nat) : acc R xs k < pp := by
  cases k with
  | zero => exact (by decide : 0 < pp)
  | succ k => exact Nat.mod_lt _ (by decide)
theorem acc_stirred (R : Nat) (xs : List Nat) : ∀ k, 16 * k < xs.length + 16 → stirred R (xs.drop (16 * k)).length (acc R xs k) (xs.drop (16 * k)) = stirred R xs.length 0 xs := by
  intro k
  induction k with
  | zero => intro _; simp [acc]
  | succ k ih =>
    intro h
    rw [← ih (by omega), stirred_step (xs := xs.drop (16 * k)) (by rw [List.length_drop]; omega)]
    have e : (xs.drop (16 * k)).drop 16 = xs.drop (16 * (k + 1)) := by rw [List.drop_drop, Nat.mul_succ]
    rw [e]
    rfl
theorem acc_all {R : Nat} {xs : List Nat} {N : Nat} (h : xs.length ≤ 16 * N) (h2 : 16 * N < xs.length + 16) : acc R xs N = stirred R xs.length 0 xs := by
  rw [← acc_stirred R xs N h2, List.drop_of_length_le (by omega), stirred_nil]

/-! What rests on cells lies as it lay where another kind of block turns. -/
section
variable {W W' : World} {row : Option Nat}
def Calm (W : World) (row : Option Nat) : Prop := ∀ r, row = some r → ∃ o : Obj, W.heap[r]? = some o ∧ o.isCells = false
theorem block_kept (hg : W.grownBy W' row) (hr : Calm W row) {b : Nat} {cs : Array Value} {t : TypeId} {m : Nat × Nat} (h : W.heap[b]? = some (.cells cs t m)) : W'.heap[b]? = some (.cells cs t m) := by
  rw [hg.block b (Array.getElem?_eq_some_iff.1 h).1 (fun e => by
    obtain ⟨o, ho, hc⟩ := hr b e.symm
    rw [h] at ho; cases ho; cases hc)]
  exact h
theorem Row.kept {k : IntKind} {p : Option Addr} {n c : Nat} {xs : List Nat} (h : Row W k p n c xs) (hg : W.grownBy W' row) (hr : Calm W row) : Row W' k p n c xs := by
  refine ⟨h.len, h.cap, h.max, ?_⟩
  rcases h.at_ with h1 | ⟨b, off, h1, h2, h3⟩
  · exact .inl h1
  · exact .inr ⟨b, off, h1, Nat.lt_of_lt_of_le h2 hg.size, fun i x hx => cell_kept (h3 i x hx) hg hr⟩
theorem RowIn.kept {k : IntKind} {p : Option Addr} {n c : Nat} {xs : List Nat} (h : RowIn W k p n c xs) (hg : W.grownBy W' row) (hr : Calm W row) : RowIn W' k p n c xs :=
  ⟨h.len, h.cap, h.max, fun h0 => (h.row h0).kept hg hr⟩
theorem NatAt.kept {p : Option Addr} {n c N : Nat} (h : NatAt W p n c N) (hg : W.grownBy W' row) (hr : Calm W row) : NatAt W' p n c N := by
  obtain ⟨ws, r1, r2, r3, r4⟩ := h.ex
  exact ⟨ws, r1.kept hg hr, r2, r3, r4⟩
theorem Fit.kept {e N : Nat} {v : Value} (h : Fit e N v W) (hg : W.grownBy W' row) (hr : Calm W row) : Fit e N v W' :=
  let ⟨p, n, c, h1, h2, h3⟩ := h
  ⟨p, n, c, h1, h2.kept hg hr, h3⟩
theorem Ring.kept {r M f : Nat} (h : Ring W r M f) (hg : W.grownBy W' row) (hr : Calm W row) : Ring W' r M f := by
  obtain ⟨p, n, c, h1, h2, h3⟩ := h.at_.ex
  exact ⟨⟨p, n, c, block_kept hg hr h1, h2.kept hg hr, h3⟩, h.two, h.lim, h.few⟩
theorem OwnIs.kept {lo : Nat} {bs : List Nat} {v : Value} (h : OwnIs lo bs v W) (hg : W.grownBy W' row) (hr : Calm W row) : OwnIs lo bs v W' := by
  cases h with
  | of p c _ h hn hz hp => exact .of p c W' (h.kept hg hr) hn hz (fun q hq => Nat.lt_of_lt_of_le (hp q hq) hg.size)
end

theorem Ring.store {W : World} {r M f b m d : Nat} {q : Option Addr} (h : Ring W r M f) (hb : NatBox W b (.slice q m d)) (v : Value) : Ring (W.setCell ⟨b, 0, none⟩ v) r M f := by
  obtain ⟨p, n, c, h1, h2, h3⟩ := h.at_.ex
  have hne : r ≠ b := fun e => by
    subst e
    unfold NatBox at hb
    rw [h1] at hb
    simp only [Option.some.injEq, Obj.cells.injEq] at hb
    exact absurd hb.2.1 (by decide)
  refine ⟨⟨p, n, c, ?_, h2.store hb _, h3⟩, h.two, h.lim, h.few⟩
  rw [heap_setCell_other W ⟨b, 0, none⟩ r v hne]; exact h1

/-- How the loop stands: the boxes of r, s, the ring and a. -/
structure St (w : World) (b6 b7 b8 b9 r : Nat) (u6 u7 : Value) (Rn Sn A : Nat) (W : World) : Prop where
  x6 : NatBox W b6 u6
  f6 : Fit 32 Rn (.agg #[u6]) W
  x7 : NatBox W b7 u7
  f7 : Fit 32 Sn (.agg #[u7]) W
  x8 : W.heap[b8]? = some (.cells #[.pointer (some ⟨r, 0, none⟩)] 34 (0, 0))
  ring : Ring W r pp 32
  a9 : ∃ p n c, NatBox W b9 (.slice p n c) ∧ Fit 32 A (.agg #[.slice p n c]) W
  bel : Below w.heap.size w W
theorem St.stable {w : World} {b6 b7 b8 b9 r : Nat} {u6 u7 : Value} {Rn Sn A : Nat} {W W' : World} (h : St w b6 b7 b8 b9 r u6 u7 Rn Sn A W) (hb : Below W.heap.size W W') : St w b6 b7 b8 b9 r u6 u7 Rn Sn A W' := by
  obtain ⟨p, n, c, h1, h2⟩ := h.a9
  exact ⟨h.x6.below hb h.x6.lt, h.f6.below hb, h.x7.below hb h.x7.lt, h.f7.below hb, by rw [hb.block b8 (Array.getElem?_eq_some_iff.1 h.x8).1]; exact h.x8, h.ring.below hb, ⟨p, n, c, h1.below hb h1.lt, h2.below hb⟩, bstep h.bel hb⟩
theorem St.own {w : World} {b6 b7 b8 b9 r : Nat} {u6 u7 : Value} {Rn Sn : Nat} {A : Nat → Nat} {B : Nat} (hB : w.heap.size ≤ B) : OwnFrom B (fun k => St w b6 b7 b8 b9 r u6 u7 Rn Sn (A k)) := fun k W W' row h hg hr => by
  have hc : Calm W row := fun j e => (hr j e).2
  obtain ⟨p, n, c, h1, h2⟩ := h.a9
  exact ⟨block_kept hg hc h.x6, h.f6.kept hg hc, block_kept hg hc h.x7, h.f7.kept hg hc, block_kept hg hc h.x8, h.ring.kept hg hc, ⟨p, n, c, block_kept hg hc h1, h2.kept hg hc⟩, h.bel.grown hg h.bel.size (fun j e => Nat.le_trans hB (hr j e).1)⟩
theorem St.store {w : World} {b6 b7 b8 b9 r : Nat} {u6 u7 : Value} {Rn Sn A A' : Nat} {W : World} (h : St w b6 b7 b8 b9 r u6 u7 Rn Sn A W) (h6 : b6 ≠ b9) (h7 : b7 ≠ b9) (h8 : b8 ≠ b9) (hw : w.heap.size ≤ b9)
    {p : Option Addr} {n c : Nat} (hf : Fit 32 A' (.agg #[.slice p n c]) W) : St w b6 b7 b8 b9 r u6 u7 Rn Sn A' (W.setCell ⟨b9, 0, none⟩ (.slice p n c)) := by
  obtain ⟨q, m, d, k1, _⟩ := h.a9
  have st : ∀ {e N v}, Fit e N v W → Fit e N v (W.setCell ⟨b9, 0, none⟩ (.slice p n c)) := fun ⟨a, b, c, h1, h2, h3⟩ => ⟨a, b, c, h1, h2.store k1 _, h3⟩
  refine ⟨h.x6.other h6 _, st h.f6, h.x7.other h7 _, st h.f7, ?_, h.ring.store k1 _, ⟨p, n, c, k1.set _, st hf⟩, h.bel.setCell hw _⟩
  rw [heap_setCell_other W ⟨b9, 0, none⟩ b8 _ h8]; exact h.x8

end Go.Proofs.Ythpfpnialeoclaa
