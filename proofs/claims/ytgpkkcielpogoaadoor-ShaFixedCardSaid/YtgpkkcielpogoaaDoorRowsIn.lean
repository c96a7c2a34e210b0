/- Slices of slices, and slices of bools, that came in. -/
import Derived.Test.YtgpkkcielpogoaaDoorShaI
namespace Go.Proofs.YtgpkkcielpogoaaDoor
open Go Go.RowKit

/-- A slice of slices of bytes that came in: nil, or rows, each nil or a row of its own. -/
def IsRows (w : World) (a : Option Addr) (len cap : Nat) (A : Nat → Option Addr) (L C : Nat → Nat) (Z : Nat → List Int) : Prop :=
  (a = none ∧ len = 0 ∧ cap = 0) ∨
  ∃ x, a = some x ∧ len ≤ cap ∧ cap ≤ maxLen ∧ ∀ r, r < cap → w.cell? (x.add r) = some (.slice (A r) (L r) (C r)) ∧ L r ≤ C r ∧ C r ≤ maxLen ∧ (Z r).length = C r ∧ (∀ n ∈ Z r, (Lit.int .u8 n).wf = true) ∧ (A r = none → C r = 0) ∧
    ∀ a', A r = some a' → ∀ c, c < C r → w.cell? (a'.add c) = some (.int .u8 ((Z r).getD c 0))
/-- A slice of bools that came in. -/
def IsBools (w : World) (a : Option Addr) (len cap : Nat) (B : Nat → Bool) : Prop :=
  (a = none ∧ len = 0 ∧ cap = 0) ∨
  ∃ x, a = some x ∧ len ≤ cap ∧ cap ≤ maxLen ∧ ∀ i, i < cap → w.cell? (x.add i) = some (.bool (B i))

/-- The parts. -/
def partsOf (len : Nat) (A : Nat → Option Addr) (L C : Nat → Nat) (Z : Nat → List Int) : List Part := (List.range len).map fun r => ⟨A r, L r, C r, bytesIn (Z r) (L r)⟩
theorem partsOf_get {len : Nat} {A : Nat → Option Addr} {L C : Nat → Nat} {Z : Nat → List Int} {i : Nat} {P : Part} (h : (partsOf len A L C Z)[i]? = some P) : i < len ∧ P = ⟨A i, L i, C i, bytesIn (Z i) (L i)⟩ := by
  unfold partsOf at h
  rw [List.getElem?_map] at h
  obtain ⟨r, hr, rfl⟩ := Option.map_eq_some_iff.1 h
  have h1 := (List.getElem?_eq_some_iff.1 hr)
  obtain ⟨h2, h3⟩ := h1
  simp at h2 h3
  subst h3
  exact ⟨h2, rfl⟩

/-- Nil slices have no room. -/
def Whole0 (L : List Part) : Prop := ∀ P ∈ L, P.p = none → P.c = 0

theorem partsIn_of {w : World} {a : Option Addr} {len cap : Nat} {A : Nat → Option Addr} {L C : Nat → Nat} {Z : Nat → List Int} (h : IsRows w a len cap A L C Z) :
    PartsIn w a len cap (partsOf len A L C Z) ∧ Whole0 (partsOf len A L C Z) := by
  rcases h with ⟨rfl, rfl, rfl⟩ | ⟨x, rfl, hl, hm, hall⟩
  · exact ⟨PartsIn.none w none, fun P hP => by simp [partsOf] at hP⟩
  · have each : ∀ i P, (partsOf len A L C Z)[i]? = some P → PartOk w P ∧ (P.p = none → P.c = 0) ∧ w.cell? (x.add i) = some (.slice P.p P.n P.c) := by
      intro i P hP
      obtain ⟨hi, rfl⟩ := partsOf_get hP
      obtain ⟨h1, h2, h3, h4, h5, h6, h7⟩ := hall i (by omega)
      have h8 : RowIn w .u8 (A i) (L i) (C i) (bytesIn (Z i) (L i)) ∧ Bytes8 (bytesIn (Z i) (L i)) := by
        cases hA : A i with
        | none =>
          have hc := h6 hA
          exact rowIn_of (.inl ⟨rfl, by omega, hc, List.eq_nil_of_length_eq_zero (by omega)⟩)
        | some a' => exact rowIn_of (.inr ⟨a', rfl, h2, h3, h4, fun c hc => h7 a' hA c (by omega), h5⟩)
      exact ⟨⟨h8.1, h8.2⟩, h6, h1⟩
    refine ⟨⟨by simp [partsOf], hl, by simpa [maxLen] using hm, fun i P hP => (each i P hP).1, fun h0 => ?_⟩, fun P hP => ?_⟩
    · obtain ⟨b, off, spot⟩ := x
      have h1 := (hall 0 (by omega)).1
      have hspot : spot = none := by simpa [Addr.add] using World.cell?_spot h1
      subst hspot
      refine ⟨b, off, rfl, ?_, fun i P hP => by rw [← add_plain]; exact (each i P hP).2.2⟩
      rw [add_plain] at h1
      unfold World.cell? at h1
      rcases Nat.lt_or_ge b w.heap.size with k | k
      · exact k
      · simp [Array.getElem?_eq_none k] at h1
    · obtain ⟨i, hi⟩ := List.getElem?_of_mem hP
      exact (each i P hi).2.1

/-- A slice of bools. -/
structure BoolsIn (w : World) (p : Option Addr) (n c : Nat) (B : Nat → Bool) : Prop where
  cap : n ≤ c
  max : c ≤ 9223372036854775807
  cells : 0 < n → ∃ b off, p = some ⟨b, off, none⟩ ∧ b < w.heap.size ∧ ∀ i, i < n → w.cell? ⟨b, off + i, none⟩ = some (.bool (B i))
theorem BoolsIn.below {w w' : World} {p : Option Addr} {n c : Nat} {B : Nat → Bool} (h : BoolsIn w p n c B) (hb : Below w.heap.size w w') : BoolsIn w' p n c B :=
  ⟨h.cap, h.max, fun h0 => by
    obtain ⟨b, off, h1, h2, h3⟩ := h.cells h0
    exact ⟨b, off, h1, Nat.lt_of_lt_of_le h2 hb.size, fun i hi => by rw [hb.cell (p := ⟨b, off + i, none⟩) h2]; exact h3 i hi⟩⟩
theorem boolsIn_of {w : World} {a : Option Addr} {len cap : Nat} {B : Nat → Bool} (h : IsBools w a len cap B) : BoolsIn w a len cap B := by
  rcases h with ⟨rfl, rfl, rfl⟩ | ⟨x, rfl, hl, hm, hall⟩
  · exact ⟨Nat.le_refl _, by omega, fun h => absurd h (by omega)⟩
  · refine ⟨hl, by simpa [maxLen] using hm, fun h0 => ?_⟩
    obtain ⟨b, off, spot⟩ := x
    have h1 := hall 0 (by omega)
    have hspot : spot = none := by simpa [Addr.add] using World.cell?_spot h1
    subst hspot
    refine ⟨b, off, rfl, ?_, fun i hi => by rw [← add_plain]; exact hall i (by omega)⟩
    rw [add_plain] at h1
    unfold World.cell? at h1
    rcases Nat.lt_or_ge b w.heap.size with k | k
    · exact k
    · simp [Array.getElem?_eq_none k] at h1

theorem PartsAre.mk1 {P : Part} (q : Nat) (w : World) (h : PartsIn w (some ⟨q, 0, none⟩) 1 1 [P]) : PartsAre [P] (.slice (some ⟨q, 0, none⟩) 1 1) w := .of q w h
theorem PartsAre.elim1 {P : Part} {v : Value} {w : World} (h : PartsAre [P] v w) {C : Prop} (k : ∀ q, v = .slice (some ⟨q, 0, none⟩) 1 1 → PartsIn w (some ⟨q, 0, none⟩) 1 1 [P] → C) : C := by
  cases h with
  | of q _ h => exact k q rfl h
end Go.Proofs.YtgpkkcielpogoaaDoor
