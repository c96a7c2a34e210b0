/- Sums and parts as values that a region yields. -/
import Derived.Test.YtgpkkcielpogoaaDoorShaP
import Derived.Test.YtgpkkcielpogoaaDoorStr
namespace Go.Proofs.YtgpkkcielpogoaaDoor
open Go Go.RowKit

theorem whole2 (P Q : Part) : whole [P, Q] = P.bs ++ Q.bs := by simp [whole]
theorem whole1 (P : Part) : whole [P] = P.bs := by simp [whole]

/-- This value is a sum of these bytes. -/
inductive SumIs (m : List Nat) : Value → World → Prop where
  | of (q : Nat) (w : World) (h : Row w .u8 (some ⟨q, 0, none⟩) 32 32 (sha m)) : SumIs m (.slice (some ⟨q, 0, none⟩) 32 32) w
theorem SumIs.mk {m : List Nat} (q : Nat) (w : World) (h : Blk w q 5 .u8 (sha m)) : SumIs m (.slice (some ⟨q, 0, none⟩) 32 32) w := .of q w (h.row (sha_length _).symm (Nat.le_refl _) (by omega))
theorem SumIs.elim {m : List Nat} {v : Value} {w : World} (h : SumIs m v w) {C : Prop} (k : ∀ q, v = .slice (some ⟨q, 0, none⟩) 32 32 → Row w .u8 (some ⟨q, 0, none⟩) 32 32 (sha m) → C) : C := by
  cases h with
  | of q _ h => exact k q rfl h
theorem SumIs.below {m : List Nat} {v : Value} {w w' : World} (h : SumIs m v w) (hb : Below w.heap.size w w') : SumIs m v w' := by
  cases h with
  | of q _ h => exact .of q w' (h.below hb)
/-- This value is a slice of these parts. -/
inductive PartsAre (L : List Part) : Value → World → Prop where
  | of (q : Nat) (w : World) (h : PartsIn w (some ⟨q, 0, none⟩) L.length L.length L) : PartsAre L (.slice (some ⟨q, 0, none⟩) L.length L.length) w
theorem PartsAre.mk {P Q : Part} (q : Nat) (w : World) (h : PartsIn w (some ⟨q, 0, none⟩) 2 2 [P, Q]) : PartsAre [P, Q] (.slice (some ⟨q, 0, none⟩) 2 2) w := .of q w h
theorem PartsAre.elim {P Q : Part} {v : Value} {w : World} (h : PartsAre [P, Q] v w) {C : Prop} (k : ∀ q, v = .slice (some ⟨q, 0, none⟩) 2 2 → PartsIn w (some ⟨q, 0, none⟩) 2 2 [P, Q] → C) : C := by
  cases h with
  | of q _ h => exact k q rfl h
theorem PartsAre.below {L : List Part} {v : Value} {w w' : World} (h : PartsAre L v w) (hb : Below w.heap.size w w') : PartsAre L v w' := by
  cases h with
  | of q _ h => exact .of q w' (h.below hb)

theorem parts2 (w : World) (P Q : Part) (hP : PartOk w P) (hQ : PartOk w Q) : PartsIn (w.alloc (.cells #[.slice P.p P.n P.c, .slice Q.p Q.n Q.c] 25)) (some ⟨w.heap.size, 0, none⟩) 2 2 [P, Q] := by
  have hb : Below w.heap.size w (w.alloc (.cells #[.slice P.p P.n P.c, .slice Q.p Q.n Q.c] 25)) := (Below.refl _ _).alloc (Nat.le_refl _) _
  have hn := heap_alloc_new w (.cells #[.slice P.p P.n P.c, .slice Q.p Q.n Q.c] 25)
  refine ⟨rfl, Nat.le_refl _, by omega, fun i X hX => ?_, fun _ => ⟨w.heap.size, 0, rfl, by simp, fun i X hX => ?_⟩⟩
  · match i, hX with
    | 0, h => cases h; exact hP.below hb
    | 1, h => cases h; exact hQ.below hb
  · match i, hX with
    | 0, h => cases h; unfold World.cell?; dsimp only; rw [hn]; rfl
    | 1, h => cases h; unfold World.cell?; dsimp only; rw [hn]; rfl

/-- A slice of one part. -/
theorem parts1 (w : World) (P : Part) (hP : PartOk w P) : PartsIn (w.alloc (.cells #[.slice P.p P.n P.c] 25)) (some ⟨w.heap.size, 0, none⟩) 1 1 [P] := by
  have hb : Below w.heap.size w (w.alloc (.cells #[.slice P.p P.n P.c] 25)) := (Below.refl _ _).alloc (Nat.le_refl _) _
  have hn := heap_alloc_new w (.cells #[.slice P.p P.n P.c] 25)
  refine ⟨rfl, Nat.le_refl _, by omega, fun i X hX => ?_, fun _ => ⟨w.heap.size, 0, rfl, by simp, fun i X hX => ?_⟩⟩
  · match i, hX with
    | 0, h => cases h; exact hP.below hb
  · match i, hX with
    | 0, h => cases h; unfold World.cell?; dsimp only; rw [hn]; rfl
theorem whole_one (P : Part) : whole [P] = P.bs := by simp [whole]

theorem parts3 (w : World) (P Q R : Part) (hP : PartOk w P) (hQ : PartOk w Q) (hR : PartOk w R) : PartsIn (w.alloc (.cells #[.slice P.p P.n P.c, .slice Q.p Q.n Q.c, .slice R.p R.n R.c] 25)) (some ⟨w.heap.size, 0, none⟩) 3 3 [P, Q, R] := by
  have hb : Below w.heap.size w (w.alloc (.cells #[.slice P.p P.n P.c, .slice Q.p Q.n Q.c, .slice R.p R.n R.c] 25)) := (Below.refl _ _).alloc (Nat.le_refl _) _
  have hn := heap_alloc_new w (.cells #[.slice P.p P.n P.c, .slice Q.p Q.n Q.c, .slice R.p R.n R.c] 25)
  refine ⟨rfl, Nat.le_refl _, by omega, fun i X hX => ?_, fun _ => ⟨w.heap.size, 0, rfl, by simp, fun i X hX => ?_⟩⟩
  · match i, hX with
    | 0, h => cases h; exact hP.below hb
    | 1, h => cases h; exact hQ.below hb
    | 2, h => cases h; exact hR.below hb
  · match i, hX with
    | 0, h => cases h; unfold World.cell?; dsimp only; rw [hn]; rfl
    | 1, h => cases h; unfold World.cell?; dsimp only; rw [hn]; rfl
    | 2, h => cases h; unfold World.cell?; dsimp only; rw [hn]; rfl

end Go.Proofs.YtgpkkcielpogoaaDoor
