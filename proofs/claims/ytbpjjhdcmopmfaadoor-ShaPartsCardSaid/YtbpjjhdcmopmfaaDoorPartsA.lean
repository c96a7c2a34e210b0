/- A hash that isn't there; bytes of the call's own written over. -/
import Derived.Test.YtbpjjhdcmopmfaaDoorShaI
import Derived.Test.YtbpjjhdcmopmfaaDoorOwn
import Derived.Test.YtbpjjhdcmopmfaaDoorRowsIn
namespace Go.Proofs.YtbpjjhdcmopmfaaDoor
open Go Go.RowKit Go.Proofs.YtbpjjhdcmopmfaaDoor.Flow

theorem add_nil (w : World) (p : Option Addr) (n c : Nat) : Calls Tryd.prog 7 #[.pointer none, .slice p n c] w fun e w' => e = .returned (.tuple #[]) ∧ w' = w := by
  go_enter Tryd.func7, Tryd.ntmps7
  go_wp2
  exact bodyPost_ret (results_none rfl _ _ _) rfl ⟨rfl, rfl⟩
theorem hsum_nil (w : World) : Calls Tryd.prog 8 #[.pointer none] w fun e w' => e = .returned (.slice none 0 0) ∧ w' = w := by
  go_enter Tryd.func8, Tryd.ntmps8
  go_wp2
  go_ret
  exact ⟨rfl, rfl⟩
theorem copy_nil (w : World) : Calls Tryd.prog 10 #[.pointer none] w fun e w' => e = .returned (.pointer none) ∧ w' = w := by
  go_enter Tryd.func10, Tryd.ntmps10
  go_wp2
  go_ret
  exact ⟨rfl, rfl⟩

theorem Own.cell {w : World} {B g n c : Nat} {bs : List Nat} (h : Own w B (.slice (some ⟨g, 0, none⟩) n c) bs) {i x : Nat} (hx : bs[i]? = some x) : w.cell? ⟨g, i, none⟩ = some (.int .u8 (x : Nat)) := by
  have hi : i < bs.length := (List.getElem?_eq_some_iff.1 hx).1
  have e : n = bs.length := by
    rcases h.owns.2 with ⟨h1, _⟩ | ⟨_, _, _, h1, _⟩
    · simp at h1
    · simp only [Value.slice.injEq] at h1; omega
  subst e
  rw [h.owns.cellAt i (by omega), List.getElem?_map, hx]
  rfl
theorem Own.free {w : World} {B g n c : Nat} {bs : List Nat} (h : Own w B (.slice (some ⟨g, 0, none⟩) n c) bs) (i : Nat) : w.frozen? ⟨g, i, none⟩ = false := by
  have e : n = bs.length := by
    rcases h.owns.2 with ⟨h1, _⟩ | ⟨_, _, _, h1, _⟩
    · simp at h1
    · simp only [Value.slice.injEq] at h1; omega
  subst e
  exact h.owns.frozenAt i
theorem Own.set {w : World} {B g n c : Nat} {bs : List Nat} (h : Own w B (.slice (some ⟨g, 0, none⟩) n c) bs) (i x : Nat) :
    Own (w.setCell ⟨g, i, none⟩ (.int .u8 (x : Nat))) B (.slice (some ⟨g, 0, none⟩) n c) (bs.set i x) ∧ w.grownBy (w.setCell ⟨g, i, none⟩ (.int .u8 (x : Nat))) (some g) := by
  have e : n = bs.length := by
    rcases h.owns.2 with ⟨h1, _⟩ | ⟨_, _, _, h1, _⟩
    · simp at h1
    · simp only [Value.slice.injEq] at h1; omega
  subst e
  obtain ⟨h1, h2⟩ := h.owns.stored i (.int .u8 (x : Nat))
  refine ⟨⟨?_⟩, h2⟩
  rw [List.length_set, List.map_set]
  exact h1
theorem Own.but {w w' : World} {B g : Nat} {v : Value} {bs : List Nat} (h : Own w B v bs) (hb : But g w w') (hne : ∀ b, v.ownBlock = some b → b ≠ g) : Own w' B v bs := by
  refine ⟨⟨h.owns.1, ?_⟩⟩
  rcases h.owns.2 with h2 | ⟨b, cap, cur, rfl, hbg, hg, h3⟩
  · exact .inl h2
  · refine .inr ⟨b, cap, cur, rfl, hbg, ?_, h3⟩
    rw [hb.block b (Array.getElem?_eq_some_iff.1 hg).1 (hne b rfl)]; exact hg
theorem Own.kept {w w' : World} {B g : Nat} {v : Value} {bs : List Nat} (h : Own w B v bs) (hg : w.grownBy w' (some g)) (hne : ∀ b, v.ownBlock = some b → b ≠ g) : Own w' B v bs :=
  ⟨h.owns.kept hg (.inr fun e => by
    cases e2 : v.ownBlock with
    | none => rw [e2] at e; cases e
    | some b => rw [e2] at e; exact hne b e2 (Option.some.inj e))⟩
theorem Own.addr {w : World} {B n c : Nat} {p : Option Addr} {bs : List Nat} (h : Own w B (.slice p n c) bs) (hn : 0 < n) : ∃ g, p = some ⟨g, 0, none⟩ ∧ B ≤ g ∧ g < w.heap.size := by
  rcases h.owns.2 with ⟨h1, _⟩ | ⟨g, cap, cur, h1, hbg, hg, _⟩
  · simp only [Value.slice.injEq] at h1; omega
  · simp only [Value.slice.injEq] at h1
    exact ⟨g, h1.1, hbg, (Array.getElem?_eq_some_iff.1 hg).1⟩
/-- So many bytes. -/
structure LenB (n : Nat) (bs : List Nat) : Prop where
  len : bs.length = n
  bytes : Bytes8 bs
theorem bytes_set {bs : List Nat} (h : Bytes8 bs) (i : Nat) {x : Nat} (hx : x < 256) : Bytes8 (bs.set i x) := by
  intro y hy
  rcases List.mem_or_eq_of_mem_set hy with h1 | h1
  · exact h y h1
  · omega
theorem take_bytes {w : World} {p : Option Addr} {n c : Nat} {L : List Part} (h : PartsIn w p n c L) (k : Nat) : Bytes8 (whole (L.take k)) := by
  intro x hx
  unfold whole at hx
  rw [List.mem_flatMap] at hx
  obtain ⟨P, hP, hx⟩ := hx
  obtain ⟨i, hi⟩ := List.getElem?_of_mem (List.mem_of_mem_take hP)
  exact (h.ok i P hi).bytes x hx
end Go.Proofs.YtbpjjhdcmopmfaaDoor
