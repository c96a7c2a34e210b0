/- Claims of stage 9 out of what a row says of its arguments. -/
import Derived.Test.YtcbhgfiafamflaaGreatDoorCertK
set_option maxRecDepth 1000000
set_option maxHeartbeats 16000000
namespace Go.Proofs.YtcbhgfiafamflaaGreatDoor
open Go Go.RowKit Go.Deep Go.ChangeShapes Go.WideShapes
theorem claim9_of {H : Type} {enc : TypeId × Value → H} {w : World} {base : Nat} {held : Bool} {n : Nat} {v0 v1 v2 : Value} {x : DataW H × List MemPlace}
  (h : DataW.trod enc Tryz.prog w base (fun _ => true) held n 30 [v0, v1, v2] = some x) :
  ∃ (s : StepN) (q : Option Addr) (m d : Nat), v0 = .int .u64 (s.n : Nat) ∧ v1 = .int .u64 (s.base : Nat) ∧ v2 = .slice q m d ∧ RowIn w .u64 q m d s.ps ∧ U64 s.n ∧ U64 s.base ∧ ∀ y ∈ s.ps, U64 y := by
 have c23 : Tryz.prog.cellsOf 22 = 1 := by kernel_rfl
 have c33 : Tryz.prog.cellsOf 28 = 1 := by kernel_rfl
 have hst := DataW.trod_struct Tryz.underlying30 h
 obtain ⟨xs, k, hk, hxy, _, hxl, hf⟩ := hst
 have f0 := hf 0 _ rfl
 have f1 := hf 1 _ rfl
 have f2 := hf 2 _ rfl
 match xs, hxl with
 | [y0, y1, y2], _ =>
  simp [c23, c33] at f0 f1 f2
  obtain ⟨a, e0, _, w0⟩ := DataW.trod_int Tryz.underlying22 f0
  obtain ⟨b, e1, _, w1⟩ := DataW.trod_int Tryz.underlying22 f1
  obtain ⟨ha1, ha2⟩ := wf_u64 w0
  obtain ⟨hb1, hb2⟩ := wf_u64 w1
  obtain ⟨a, rfl⟩ := Int.eq_ofNat_of_zero_le ha1
  obtain ⟨b, rfl⟩ := Int.eq_ofNat_of_zero_le hb1
  simp only [List.cons.injEq, and_true] at e0 e1
  have hU : U64 a ∧ U64 b := by unfold U64; omega
  rcases open_ints Tryz.underlying28 Tryz.underlying22 c23 f2 with ⟨hcs, _⟩ | ⟨z, l, c, zs, hcs, _, hl, hm, hz, _, hcell, hwz⟩
  ·simp only [List.cons.injEq, and_true] at hcs
   exact ⟨⟨a, b, []⟩, none, 0, 0, e0, e1, hcs, ⟨rfl, Nat.le_refl _, by omega, fun h => absurd h (by omega)⟩, hU.1, hU.2, fun y hy => by simp at hy⟩
  ·simp only [List.cons.injEq, and_true] at hcs
   simp only [if_true] at hz
   obtain ⟨h1, h2⟩ := rowIn_of64 (w := w) (a := some z) (len := l) (cap := c) (zs := zs) (.inr ⟨z, rfl, hl, hm, hz, hcell, hwz⟩)
   exact ⟨⟨a, b, bytesIn zs l⟩, some z, l, c, e0, e1, hcs, h1, hU.1, hU.2, h2⟩
theorem claims9_of {H : Type} {enc : TypeId × Value → H} {w : World} {base : Nat} {held : Bool} {n : Nat} {a : Option Addr} {len cap : Nat} {x : DataW H × List MemPlace}
  (h : DataW.trod enc Tryz.prog w base (fun _ => true) held n 24 [.slice a len cap] = some x) : ∃ l, ClaimsIn w a len cap l := by
 have ce : Tryz.prog.cellsOf 30 = 3 := by kernel_rfl
 have hos := open_slice Tryz.underlying24 h
 rcases hos with ⟨hcs, _⟩ | ⟨z, l, c, m, k, D, Pl, hcs, _, hl, hm, hmm, _, hx⟩
 ·simp only [List.cons.injEq, Value.slice.injEq, and_true] at hcs
  obtain ⟨rfl, rfl, rfl⟩ := hcs
  exact ⟨[], rfl, Nat.le_refl _, by omega, fun s hs => by simp at hs, fun h => by omega⟩
 ·simp only [List.cons.injEq, Value.slice.injEq, and_true] at hcs
  obtain ⟨rfl, rfl, rfl⟩ := hcs
  simp only [if_true] at hmm
  subst hmm
  have each : ∀ i, i < m → ∃ y : StepN × Option Addr × Nat × Nat, w.cell? (z.add (i * 3)) = some (.int .u64 (y.1.n : Nat)) ∧ w.cell? (z.add (i * 3 + 1)) = some (.int .u64 (y.1.base : Nat)) ∧ w.cell? (z.add (i * 3 + 2)) = some (.slice y.2.1 y.2.2.1 y.2.2.2) ∧
    RowIn w .u64 y.2.1 y.2.2.1 y.2.2.2 y.1.ps ∧ U64 y.1.n ∧ U64 y.1.base ∧ ∀ x ∈ y.1.ps, U64 x := by
   intro i hi
   obtain ⟨cs', h1, h2⟩ := hx i hi
   rw [ce] at h1
   obtain ⟨_, hlen, hcell⟩ := World.cells?_some h1
   match cs', hlen with
   | [v0, v1, v2], _ =>
    obtain ⟨s, q, m, d, e0, e1, e2, k1, k2, k3, k4⟩ := claim9_of h2
    have g0 := hcell 0 (by omega)
    have g1 := hcell 1 (by omega)
    have g2 := hcell 2 (by omega)
    rw [add_add] at g0 g1 g2
    simp only [List.getElem?_cons_zero, List.getElem?_cons_succ, Nat.add_zero] at g0 g1 g2
    exact ⟨(s, q, m, d), by rw [g0, e0], by rw [g1, e1], by rw [g2, e2], k1, k2, k3, k4⟩
  obtain ⟨y, hy⟩ := choose_lt each
  refine ⟨(List.range len).map fun i => (y i).1, by simp, hl, by simpa [maxLen] using hm, fun s hs => ?_, fun h0 => ?_⟩
  ·obtain ⟨i, hi, rfl⟩ := List.mem_map.1 hs
   have := hy i (by have := List.mem_range.1 hi; omega)
   exact ⟨this.2.2.2.2.1, this.2.2.2.2.2.1, this.2.2.2.2.2.2⟩
  ·obtain ⟨b, off, spot⟩ := z
   have h1 := (hy 0 (by omega)).1
   have hspot : spot = none := by simpa [Addr.add] using World.cell?_spot h1
   subst hspot
   refine ⟨b, off, rfl, ?_, fun i s hs => ?_⟩
   ·rw [add_plain] at h1
    unfold World.cell? at h1
    rcases Nat.lt_or_ge b w.heap.size with k | k
    ·exact k
    ·simp [Array.getElem?_eq_none k] at h1
   ·rw [List.getElem?_map] at hs
    obtain ⟨j, hj, rfl⟩ := Option.map_eq_some_iff.1 hs
    have hj' := List.getElem?_eq_some_iff.1 hj
    obtain ⟨hj1, hj2⟩ := hj'
    simp at hj1 hj2
    subst hj2
    obtain ⟨k0, k1, k2, k3, _⟩ := hy i (by omega)
    rw [add_plain] at k0 k1 k2
    exact ⟨_, _, _, k0, by rw [Nat.add_assoc]; exact k1, by rw [Nat.add_assoc]; exact k2, k3⟩
end Go.Proofs.YtcbhgfiafamflaaGreatDoor
