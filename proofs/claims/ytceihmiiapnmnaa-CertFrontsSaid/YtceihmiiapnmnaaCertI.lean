/- Claims out of what a row says of its arguments. -/
import Derived.Test.YtceihmiiapnmnaaCertJ
import Derived.Deep.Slices
import Derived.ChangeSame
import Derived.ChangeSlices
import Derived.ChangeArms
namespace Go.Proofs.Ytceihmiiapnmnaa
open Go Go.RowKit Go.Deep Go.ChangeShapes Go.WideShapes
set_option maxRecDepth 100000

/-- The numbers. -/
theorem rowIn_of64 {w : World} {a : Option Addr} {len cap : Nat} {zs : List Int}
    (h : (a = none ∧ len = 0 ∧ cap = 0 ∧ zs = []) ∨ ∃ x, a = some x ∧ len ≤ cap ∧ cap ≤ maxLen ∧ zs.length = cap ∧ (∀ i, i < zs.length → w.cell? (x.add i) = some (.int .u64 (zs.getD i 0))) ∧ ∀ n ∈ zs, (Lit.int .u64 n).wf = true) :
    RowIn w .u64 a len cap (bytesIn zs len) ∧ ∀ x ∈ bytesIn zs len, U64 x := by
  rcases h with ⟨rfl, rfl, rfl, rfl⟩ | ⟨x, rfl, hl, hm, hz, hc, hw⟩
  · exact ⟨⟨by simp [bytesIn], Nat.le_refl _, by omega, fun h => absurd h (by omega)⟩, by simp [bytesIn]⟩
  · have hm' : cap ≤ 9223372036854775807 := by simpa [maxLen] using hm
    have hlen : len = (bytesIn zs len).length := by simp [bytesIn]; omega
    refine ⟨⟨hlen, hl, hm', fun h0 => ?_⟩, ?_⟩
    · obtain ⟨b, off, spot⟩ := x
      have h1 := hc 0 (by omega)
      have hspot : spot = none := by simpa [Addr.add] using World.cell?_spot h1
      subst hspot
      have hadd : ∀ i, (⟨b, off, none⟩ : Addr).add i = ⟨b, off + i, none⟩ := add_plain b off
      refine ⟨hlen, hl, hm', .inr ⟨b, off, rfl, ?_, fun i y hy => ?_⟩⟩
      · rw [hadd] at h1
        unfold World.cell? at h1
        rcases Nat.lt_or_ge b w.heap.size with k | k
        · exact k
        · simp [Array.getElem?_eq_none k] at h1
      · simp only [bytesIn, List.getElem?_map, List.getElem?_take] at hy
        split at hy
        · rename_i hi
          have hi2 : i < zs.length := by omega
          rw [List.getElem?_eq_getElem hi2] at hy
          simp only [Option.map_some, Option.some.injEq] at hy
          have := wf_u64 (hw zs[i] (List.getElem_mem _))
          rw [← hadd, hc i hi2, ← hy, List.getD_eq_getElem?_getD, List.getElem?_eq_getElem hi2]
          simp only [Option.getD_some]
          congr 2
          omega
        · simp at hy
    · intro y hy
      simp only [bytesIn, List.mem_map] at hy
      obtain ⟨z, hz', rfl⟩ := hy
      have := wf_u64 (hw z (List.mem_of_mem_take hz'))
      unfold U64
      omega

instance : Inhabited StepN := ⟨⟨0, 0, []⟩⟩

set_option maxRecDepth 100000 in
/-- One claim, out of its cells. -/
theorem claim_of {H : Type} {enc : TypeId × Value → H} {w : World} {base : Nat} {held : Bool} {n : Nat} {v0 v1 v2 : Value} {x : DataW H × List MemPlace}
    (h : DataW.trod enc Try.prog w base (fun _ => true) held n 35 [v0, v1, v2] = some x) :
    ∃ (s : StepN) (q : Option Addr) (m d : Nat), v0 = .int .u64 (s.n : Nat) ∧ v1 = .int .u64 (s.base : Nat) ∧ v2 = .slice q m d ∧ RowIn w .u64 q m d s.ps ∧ U64 s.n ∧ U64 s.base ∧ ∀ y ∈ s.ps, U64 y := by
  have c23 : Try.prog.cellsOf 23 = 1 := by kernel_rfl
  have c33 : Try.prog.cellsOf 33 = 1 := by kernel_rfl
  have hst := DataW.trod_struct Try.underlying35 h
  obtain ⟨xs, k, hk, hxy, _, hxl, hf⟩ := hst
  have f0 := hf 0 _ rfl
  have f1 := hf 1 _ rfl
  have f2 := hf 2 _ rfl
  match xs, hxl with
  | [y0, y1, y2], _ =>
    simp [c23, c33] at f0 f1 f2
    obtain ⟨a, e0, _, w0⟩ := DataW.trod_int Try.underlying23 f0
    obtain ⟨b, e1, _, w1⟩ := DataW.trod_int Try.underlying23 f1
    obtain ⟨ha1, ha2⟩ := wf_u64 w0
    obtain ⟨hb1, hb2⟩ := wf_u64 w1
    obtain ⟨a, rfl⟩ := Int.eq_ofNat_of_zero_le ha1
    obtain ⟨b, rfl⟩ := Int.eq_ofNat_of_zero_le hb1
    simp only [List.cons.injEq, and_true] at e0 e1
    have hU : U64 a ∧ U64 b := by unfold U64; omega
    rcases open_ints Try.underlying33 Try.underlying23 c23 f2 with ⟨hcs, _⟩ | ⟨z, l, c, zs, hcs, _, hl, hm, hz, _, hcell, hwz⟩
    · simp only [List.cons.injEq, and_true] at hcs
      exact ⟨⟨a, b, []⟩, none, 0, 0, e0, e1, hcs, ⟨rfl, Nat.le_refl _, by omega, fun h => absurd h (by omega)⟩, hU.1, hU.2, fun y hy => by simp at hy⟩
    · simp only [List.cons.injEq, and_true] at hcs
      simp only [if_true] at hz
      obtain ⟨h1, h2⟩ := rowIn_of64 (w := w) (a := some z) (len := l) (cap := c) (zs := zs) (.inr ⟨z, rfl, hl, hm, hz, hcell, hwz⟩)
      exact ⟨⟨a, b, bytesIn zs l⟩, some z, l, c, e0, e1, hcs, h1, hU.1, hU.2, h2⟩

set_option maxRecDepth 100000 in
/-- A slice of claims. -/
theorem claims_of {H : Type} {enc : TypeId × Value → H} {w : World} {base : Nat} {held : Bool} {n : Nat} {a : Option Addr} {len cap : Nat} {x : DataW H × List MemPlace}
    (h : DataW.trod enc Try.prog w base (fun _ => true) held n 22 [.slice a len cap] = some x) : ∃ l, ClaimsIn w a len cap l := by
  have ce : Try.prog.cellsOf 35 = 3 := by kernel_rfl
  have hos := open_slice Try.underlying22 h
  rcases hos with ⟨hcs, _⟩ | ⟨z, l, c, m, k, D, Pl, hcs, _, hl, hm, hmm, _, hx⟩
  · simp only [List.cons.injEq, Value.slice.injEq, and_true] at hcs
    obtain ⟨rfl, rfl, rfl⟩ := hcs
    exact ⟨[], rfl, Nat.le_refl _, by omega, fun s hs => by simp at hs, fun h => by omega⟩
  · simp only [List.cons.injEq, Value.slice.injEq, and_true] at hcs
    obtain ⟨rfl, rfl, rfl⟩ := hcs
    simp only [if_true] at hmm
    subst hmm
    have each : ∀ i, i < m → ∃ y : StepN × Option Addr × Nat × Nat, w.cell? (z.add (i * 3)) = some (.int .u64 (y.1.n : Nat)) ∧ w.cell? (z.add (i * 3 + 1)) = some (.int .u64 (y.1.base : Nat)) ∧ w.cell? (z.add (i * 3 + 2)) = some (.slice y.2.1 y.2.2.1 y.2.2.2) ∧
        RowIn w .u64 y.2.1 y.2.2.1 y.2.2.2 y.1.ps ∧ U64 y.1.n ∧ U64 y.1.base ∧ ∀ x ∈ y.1.ps, U64 x := by
      intro i hi
      obtain ⟨cs', h1, h2⟩ := hx i hi
      rw [ce] at h1
      obtain ⟨_, hlen, hcell⟩ := World.cells?_some h1
      match cs', hlen with
      | [v0, v1, v2], _ =>
        obtain ⟨s, q, m, d, e0, e1, e2, k1, k2, k3, k4⟩ := claim_of h2
        have g0 := hcell 0 (by omega)
        have g1 := hcell 1 (by omega)
        have g2 := hcell 2 (by omega)
        rw [add_add] at g0 g1 g2
        simp only [List.getElem?_cons_zero, List.getElem?_cons_succ, Nat.add_zero] at g0 g1 g2
        exact ⟨(s, q, m, d), by rw [g0, e0], by rw [g1, e1], by rw [g2, e2], k1, k2, k3, k4⟩
    obtain ⟨y, hy⟩ := choose_lt each
    refine ⟨(List.range len).map fun i => (y i).1, by simp, hl, by simpa [maxLen] using hm, fun s hs => ?_, fun h0 => ?_⟩
    · obtain ⟨i, hi, rfl⟩ := List.mem_map.1 hs
      have := hy i (by have := List.mem_range.1 hi; omega)
      exact ⟨this.2.2.2.2.1, this.2.2.2.2.2.1, this.2.2.2.2.2.2⟩
    · obtain ⟨b, off, spot⟩ := z
      have h1 := (hy 0 (by omega)).1
      have hspot : spot = none := by simpa [Addr.add] using World.cell?_spot h1
      subst hspot
      refine ⟨b, off, rfl, ?_, fun i s hs => ?_⟩
      · rw [add_plain] at h1
        unfold World.cell? at h1
        rcases Nat.lt_or_ge b w.heap.size with k | k
        · exact k
        · simp [Array.getElem?_eq_none k] at h1
      · rw [List.getElem?_map] at hs
        obtain ⟨j, hj, rfl⟩ := Option.map_eq_some_iff.1 hs
        have hj' := List.getElem?_eq_some_iff.1 hj
        obtain ⟨hj1, hj2⟩ := hj'
        simp at hj1 hj2
        subst hj2
        obtain ⟨k0, k1, k2, k3, _⟩ := hy i (by omega)
        rw [add_plain] at k0 k1 k2
        exact ⟨_, _, _, k0, by rw [Nat.add_assoc]; exact k1, by rw [Nat.add_assoc]; exact k2, k3⟩

end Go.Proofs.Ytceihmiiapnmnaa
