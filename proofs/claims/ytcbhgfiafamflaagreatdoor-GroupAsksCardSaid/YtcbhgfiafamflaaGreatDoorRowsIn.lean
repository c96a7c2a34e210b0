/- Slices of slices, and slices of bools, that came in. -/
import Derived.Test.YtcbhgfiafamflaaGreatDoorFit4
namespace Go.Proofs.YtcbhgfiafamflaaGreatDoor
open Go Go.RowKit
set_option maxRecDepth 100000

/-- A slice of slices of bytes that came in: nil, or rows, each nil or a row of its own. -/
def IsRows (w : World) (a : Option Addr) (len cap : Nat) (A : Nat → Option Addr) (L C : Nat → Nat) (Z : Nat → List Int) : Prop :=
  (a = none ∧ len = 0 ∧ cap = 0) ∨
  ∃ x, a = some x ∧ len ≤ cap ∧ cap ≤ maxLen ∧ ∀ r, r < cap → w.cell? (x.add r) = some (.slice (A r) (L r) (C r)) ∧ L r ≤ C r ∧ C r ≤ maxLen ∧ (Z r).length = C r ∧ (∀ n ∈ Z r, (Lit.int .u8 n).wf = true) ∧ (A r = none → C r = 0) ∧
    ∀ a', A r = some a' → ∀ c, c < C r → w.cell? (a'.add c) = some (.int .u8 ((Z r).getD c 0))
/-- The parts. -/
def partsOf (len : Nat) (A : Nat → Option Addr) (L C : Nat → Nat) (Z : Nat → List Int) : List Part := (List.range len).map fun r => ⟨A r, L r, C r, bytesIn (Z r) (L r)⟩
theorem partsOf_get {len : Nat} {A : Nat → Option Addr} {L C : Nat → Nat} {Z : Nat → List Int} {i : Nat} {P : Part} (h : (partsOf len A L C Z)[i]? = some P) : i < len ∧ P = ⟨A i, L i, C i, bytesIn (Z i) (L i)⟩ := by
  unfold partsOf at h
  rw [List.getElem?_map] at h
  obtain ⟨r, hr, rfl⟩ := Option.map_eq_some_iff.1 h
  have h1 := (List.getElem?_eq_some_iff.1 hr)
  obtain ⟨h2, h3⟩ := h1
  simp at h2 h3
  subst h3
  exact ⟨h2, rfl⟩

/-- Nil slices have no room. -/
def Whole0 (L : List Part) : Prop := ∀ P ∈ L, P.p = none → P.c = 0

theorem partsIn_of {w : World} {a : Option Addr} {len cap : Nat} {A : Nat → Option Addr} {L C : Nat → Nat} {Z : Nat → List Int} (h : IsRows w a len cap A L C Z) :
    PartsIn w a len cap (partsOf len A L C Z) ∧ Whole0 (partsOf len A L C Z) := by
  rcases h with ⟨rfl, rfl, rfl⟩ | ⟨x, rfl, hl, hm, hall⟩
  · exact ⟨PartsIn.none w none, fun P hP => by simp [partsOf] at hP⟩
  · have each : ∀ i P, (partsOf len A L C Z)[i]? = some P → PartOk w P ∧ (P.p = none → P.c = 0) ∧ w.cell? (x.add i) = some (.slice P.p P.n P.c) := by
      intro i P hP
      obtain ⟨hi, rfl⟩ := partsOf_get hP
      obtain ⟨h1, h2, h3, h4, h5, h6, h7⟩ := hall i (by omega)
      have h8 : RowIn w .u8 (A i) (L i) (C i) (bytesIn (Z i) (L i)) ∧ Bytes8 (bytesIn (Z i) (L i)) := by
        cases hA : A i with
        | none =>
          have hc := h6 hA
          exact rowIn_of (.inl ⟨rfl, by omega, hc, List.eq_nil_of_length_eq_zero (by omega)⟩)
        | some a' => exact rowIn_of (.inr ⟨a', rfl, h2, h3, h4, fun c hc => h7 a' hA c (by omega), h5⟩)
      exact ⟨⟨h8.1, h8.2⟩, h6, h1⟩
    refine ⟨⟨by simp [partsOf], hl, by simpa [maxLen] using hm, fun i P hP => (each i P hP).1, fun h0 => ?_⟩, fun P hP => ?_⟩
    · obtain ⟨b, off, spot⟩ := x
      have h1 := (hall 0 (by omega)).1
      have hspot : spot = none := by simpa [Addr.add] using World.cell?_spot h1
      subst hspot
      refine ⟨b, off, rfl, ?_, fun i P hP => by rw [← add_plain]; exact (each i P hP).2.2⟩
      rw [add_plain] at h1
      unfold World.cell? at h1
      rcases Nat.lt_or_ge b w.heap.size with k | k
      · exact k
      · simp [Array.getElem?_eq_none k] at h1
    · obtain ⟨i, hi⟩ := List.getElem?_of_mem hP
      exact (each i P hi).2.1

end Go.Proofs.YtcbhgfiafamflaaGreatDoor
