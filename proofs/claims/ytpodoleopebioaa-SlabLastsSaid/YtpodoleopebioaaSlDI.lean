/- Deeds out of what a row says of its arguments. -/
import Derived.Test.YtpodoleopebioaaSlLas
import Derived.Deep.Slices
import Derived.ChangeSame
import Derived.ChangeSlices
import Derived.ChangeArms
namespace Go.Proofs.Ytpodoleopebioaa
open Go Go.RowKit Go.Deep Go.ChangeShapes Go.WideShapes
set_option maxRecDepth 100000

theorem choose_up {β : Type} [Inhabited β] {n : Nat} {p : Nat → β → Prop} (h : ∀ i, i < n → ∃ y, p i y) : ∃ f : Nat → β, ∀ i, i < n → p i (f i) := by
  classical
  refine ⟨fun i => if hi : ∃ y, p i y then hi.choose else default, fun i hi => ?_⟩
  have h1 := h i hi
  simp only [dif_pos h1]
  exact h1.choose_spec
theorem addr_plain {w : World} {z : Addr} {v : Value} (h : w.cell? (z.add (0 * 2)) = some v) : z.spot = none := by
  obtain ⟨b, off, spot⟩ := z
  simpa [Addr.add] using World.cell?_spot h

set_option maxRecDepth 100000 in
/-- One scar, out of its cells. -/
theorem scar_of {H : Type} {enc : TypeId × Value → H} {w : World} {base : Nat} {held : Bool} {n : Nat} {v0 v1 : Value} {x : DataW H × List MemPlace}
    (h : DataW.trod enc Try.prog w base (fun _ => true) held n 58 [v0, v1] = some x) :
    ∃ (s : Int × List Nat) (q : Option Addr × Nat × Nat), v0 = .int .i64 s.1 ∧ v1 = .slice q.1 q.2.1 q.2.2 ∧ RowIn w .u8 q.1 q.2.1 q.2.2 s.2 ∧ Bytes8 s.2 ∧ (Lit.int .i64 s.1).wf = true := by
  have c23 : Try.prog.cellsOf 3 = 1 := by kernel_rfl
  have c33 : Try.prog.cellsOf 26 = 1 := by kernel_rfl
  have c8 : Try.prog.cellsOf 5 = 1 := by kernel_rfl
  obtain ⟨xs, k, hk, hxy, _, hxl, hf⟩ := DataW.trod_struct Try.underlying58 h
  have f0 := hf 0 _ rfl
  have f1 := hf 1 _ rfl
  match xs, hxl with
  | [y0, y1], _ =>
    simp [c23, c33] at f0 f1
    obtain ⟨a, e0, _, w0⟩ := DataW.trod_int Try.underlying3 f0
    simp only [List.cons.injEq, and_true] at e0
    rcases open_ints Try.underlying26 Try.underlying5 c8 f1 with ⟨hcs, _⟩ | ⟨z, l, c, zs, hcs, _, hl, hm, hz, _, hcell, hwz⟩
    · simp only [List.cons.injEq, and_true] at hcs
      exact ⟨(a, []), (none, 0, 0), e0, hcs, ⟨rfl, Nat.le_refl _, by show (0 : Nat) ≤ 9223372036854775807; omega, fun h => (Nat.lt_irrefl _ h).elim⟩, (fun y hy => by cases hy), w0⟩
    · simp only [List.cons.injEq, and_true] at hcs
      simp only [if_true] at hz
      obtain ⟨h1, h2⟩ := rowIn_of (w := w) (a := some z) (len := l) (cap := c) (zs := zs) (.inr ⟨z, rfl, hl, hm, hz, hcell, hwz⟩)
      exact ⟨(a, bytesIn zs l), (some z, l, c), e0, hcs, h1, h2, w0⟩

instance : Inhabited ((Int × List Nat) × (Option Addr × Nat × Nat)) := ⟨((0, []), (none, 0, 0))⟩

set_option maxRecDepth 100000 in
/-- A slice of scars. -/
theorem scars_of {H : Type} {enc : TypeId × Value → H} {w : World} {base : Nat} {held : Bool} {n : Nat} {v : Value} {x : DataW H × List MemPlace}
    (h : DataW.trod enc Try.prog w base (fun _ => true) held n 42 [v] = some x) : ∃ a len cap l qs, v = .slice a len cap ∧ ScarsIn w a len cap l qs := by
  have ce : Try.prog.cellsOf 58 = 2 := by kernel_rfl
  rcases open_slice Try.underlying42 h with ⟨hcs, _⟩ | ⟨z, len, cap, m, k, D, Pl, hcs, _, hl, hm, hmm, _, hx⟩
  · simp only [List.cons.injEq, and_true] at hcs
    exact ⟨none, 0, 0, [], [], hcs, ScarsIn.nil w⟩
  · simp only [List.cons.injEq, and_true] at hcs
    simp only [if_true] at hmm
    subst hmm
    have each : ∀ i, i < m → ∃ y : (Int × List Nat) × (Option Addr × Nat × Nat), w.cell? (z.add (i * 2)) = some (.int .i64 y.1.1) ∧ w.cell? (z.add (i * 2 + 1)) = some (.slice y.2.1 y.2.2.1 y.2.2.2) ∧
        RowIn w .u8 y.2.1 y.2.2.1 y.2.2.2 y.1.2 ∧ Bytes8 y.1.2 ∧ (Lit.int .i64 y.1.1).wf = true := by
      intro i hi
      obtain ⟨cs', h1, h2⟩ := hx i hi
      rw [ce] at h1
      obtain ⟨_, hlen, hcell⟩ := World.cells?_some h1
      match cs', hlen with
      | [v0, v1], _ =>
        obtain ⟨s, q, e0, e1, k1, k2, k3⟩ := scar_of h2
        have g0 := hcell 0 (by omega)
        have g1 := hcell 1 (by omega)
        rw [add_add] at g0 g1
        simp only [List.getElem?_cons_zero, List.getElem?_cons_succ, Nat.add_zero] at g0 g1
        exact ⟨(s, q), by rw [g0, e0], by rw [g1, e1], k1, k2, k3⟩
    obtain ⟨y, hy⟩ := choose_up each
    refine ⟨some z, len, m, (List.range len).map fun i => (y i).1, (List.range len).map fun i => (y i).2, hcs, by simp, by simp, hl, by simpa [maxLen] using hm, fun h0 => ?_⟩
    have hspot := addr_plain (hy 0 (by omega)).1
    obtain ⟨b, off, spot⟩ := z
    simp only at hspot
    subst hspot
    refine ⟨b, off, rfl, ?_, fun i s q hs hq => ?_⟩
    · have h1 := (hy 0 (by omega)).1
      rw [add_plain] at h1
      exact cell_lt h1
    · rw [List.getElem?_map] at hs hq
      obtain ⟨j, hj, rfl⟩ := Option.map_eq_some_iff.1 hs
      obtain ⟨j2, hj2, rfl⟩ := Option.map_eq_some_iff.1 hq
      rw [hj] at hj2
      cases hj2
      obtain ⟨hj1, hj2⟩ := List.getElem?_eq_some_iff.1 hj
      simp at hj1 hj2
      subst hj2
      obtain ⟨k0, k1, k2, k3, k4⟩ := hy i (by omega)
      rw [add_plain] at k0 k1
      exact ⟨k0, by rw [Nat.add_assoc]; exact k1, k2, k3, k4⟩

set_option maxRecDepth 100000 in
/-- One deed, out of its cells. -/
theorem deed_of {H : Type} {enc : TypeId × Value → H} {w : World} {base : Nat} {held : Bool} {n : Nat} {v0 v1 v2 v3 v4 : Value} {x : DataW H × List MemPlace}
    (h : DataW.trod enc Try.prog w base (fun _ => true) held n 44 [v0, v1, v2, v3, v4] = some x) :
    ∃ (d : DeedN) (t : Option Addr × Nat × Nat), v0 = .int .i64 d.kind ∧ v1 = .int .i64 d.at_ ∧ v2 = .int .i64 d.n ∧ v3 = .int .u8 (d.x : Nat) ∧ v4 = .slice t.1 t.2.1 t.2.2 ∧ DeedOk w d t := by
  have c23 : Try.prog.cellsOf 3 = 1 := by kernel_rfl
  have c33 : Try.prog.cellsOf 42 = 1 := by kernel_rfl
  have c8 : Try.prog.cellsOf 5 = 1 := by kernel_rfl
  obtain ⟨xs, k, hk, hxy, _, hxl, hf⟩ := DataW.trod_struct Try.underlying44 h
  have f0 := hf 0 _ rfl
  have f1 := hf 1 _ rfl
  have f2 := hf 2 _ rfl
  have f3 := hf 3 _ rfl
  have f4 := hf 4 _ rfl
  match xs, hxl with
  | [y0, y1, y2, y3, y4], _ =>
    simp [c23, c33, c8] at f0 f1 f2 f3 f4
    obtain ⟨a, e0, _, _⟩ := DataW.trod_int Try.underlying3 f0
    obtain ⟨b, e1, _, _⟩ := DataW.trod_int Try.underlying3 f1
    obtain ⟨c, e2, _, wc⟩ := DataW.trod_int Try.underlying3 f2
    obtain ⟨d, e3, _, wd⟩ := DataW.trod_int Try.underlying5 f3
    obtain ⟨hd1, hd2⟩ := wf_u8 wd
    obtain ⟨d, rfl⟩ := Int.eq_ofNat_of_zero_le hd1
    have hc := wf_i64 wc
    simp only [List.cons.injEq, and_true] at e0 e1 e2 e3
    obtain ⟨p, len, cap, l, qs, e4, hsc⟩ := scars_of f4
    exact ⟨⟨a, b, c, d, l⟩, (p, len, cap), e0, e1, e2, e3, e4, ⟨hc.2, by show d < 256; omega, qs, hsc⟩⟩

instance : Inhabited (DeedN × (Option Addr × Nat × Nat)) := ⟨(⟨0, 0, 0, 0, []⟩, (none, 0, 0))⟩

set_option maxRecDepth 100000 in
/-- A slice of deeds. -/
theorem deeds_of {H : Type} {enc : TypeId × Value → H} {w : World} {base : Nat} {held : Bool} {n : Nat} {a : Option Addr} {len cap : Nat} {x : DataW H × List MemPlace}
    (h : DataW.trod enc Try.prog w base (fun _ => true) held n 22 [.slice a len cap] = some x) : ∃ l ts, DeedsIn w a len cap l ts := by
  have ce : Try.prog.cellsOf 44 = 5 := by kernel_rfl
  rcases open_slice Try.underlying22 h with ⟨hcs, _⟩ | ⟨z, l, c, m, k, D, Pl, hcs, _, hl, hm, hmm, _, hx⟩
  · simp only [List.cons.injEq, Value.slice.injEq, and_true] at hcs
    obtain ⟨rfl, rfl, rfl⟩ := hcs
    exact ⟨[], [], rfl, rfl, Nat.le_refl _, by omega, fun h => by omega⟩
  · simp only [List.cons.injEq, Value.slice.injEq, and_true] at hcs
    obtain ⟨rfl, rfl, rfl⟩ := hcs
    simp only [if_true] at hmm
    subst hmm
    have each : ∀ i, i < m → ∃ y : DeedN × (Option Addr × Nat × Nat), w.cell? (z.add (i * 5)) = some (.int .i64 y.1.kind) ∧ w.cell? (z.add (i * 5 + 1)) = some (.int .i64 y.1.at_) ∧ w.cell? (z.add (i * 5 + 2)) = some (.int .i64 y.1.n) ∧ w.cell? (z.add (i * 5 + 3)) = some (.int .u8 (y.1.x : Nat)) ∧ w.cell? (z.add (i * 5 + 4)) = some (.slice y.2.1 y.2.2.1 y.2.2.2) ∧ DeedOk w y.1 y.2 := by
      intro i hi
      obtain ⟨cs', h1, h2⟩ := hx i hi
      rw [ce] at h1
      obtain ⟨_, hlen, hcell⟩ := World.cells?_some h1
      match cs', hlen with
      | [v0, v1, v2, v3, v4], _ =>
        obtain ⟨d, t, e0, e1, e2, e3, e4, k1⟩ := deed_of h2
        have g0 := hcell 0 (by omega)
        have g1 := hcell 1 (by omega)
        have g2 := hcell 2 (by omega)
        have g3 := hcell 3 (by omega)
        have g4 := hcell 4 (by omega)
        rw [add_add] at g0 g1 g2 g3 g4
        simp only [List.getElem?_cons_zero, List.getElem?_cons_succ, Nat.add_zero] at g0 g1 g2 g3 g4
        exact ⟨(d, t), by rw [g0, e0], by rw [g1, e1], by rw [g2, e2], by rw [g3, e3], by rw [g4, e4], k1⟩
    obtain ⟨y, hy⟩ := choose_up each
    refine ⟨(List.range len).map fun i => (y i).1, (List.range len).map fun i => (y i).2, by simp, by simp, hl, by simpa [maxLen] using hm, fun h0 => ?_⟩
    have h1 := (hy 0 (by omega)).1
    have hspot : z.spot = none := by
      rw [Nat.zero_mul] at h1
      exact addr_plain (v := .int .i64 (y 0).1.kind) (by rw [Nat.zero_mul]; exact h1)
    obtain ⟨b, off, spot⟩ := z
    simp only at hspot
    subst hspot
    refine ⟨b, off, rfl, ?_, fun i s q hs hq => ?_⟩
    · rw [add_plain] at h1
      exact cell_lt h1
    · rw [List.getElem?_map] at hs hq
      obtain ⟨j, hj, rfl⟩ := Option.map_eq_some_iff.1 hs
      obtain ⟨j2, hj2, rfl⟩ := Option.map_eq_some_iff.1 hq
      rw [hj] at hj2
      cases hj2
      obtain ⟨hj1, hj2⟩ := List.getElem?_eq_some_iff.1 hj
      simp at hj1 hj2
      subst hj2
      obtain ⟨k0, k1, k2, k3, k4, k5⟩ := hy i (by omega)
      rw [add_plain] at k0 k1 k2 k3 k4
      exact ⟨k0, by rw [Nat.add_assoc]; exact k1, by rw [Nat.add_assoc]; exact k2, by rw [Nat.add_assoc]; exact k3, by rw [Nat.add_assoc]; exact k4, k5⟩

end Go.Proofs.Ytpodoleopebioaa
