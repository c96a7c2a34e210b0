/- What a hash is in memory. -/
import Derived.Test.YtgpkkcielpogoaaDoorShaM
import Derived.Test.YtgpkkcielpogoaaDoorBut
import Derived.Laws.CopyOwn
import Derived.WalkSmall
namespace Go.Proofs.YtgpkkcielpogoaaDoor
open Go Go.RowKit

/-- A hash's cells: the state, the bytes under way, the length. -/
def hcells (st pend : List Nat) (len : Nat) : List Value := (st.map fun (x : Nat) => Value.int .u32 x) ++ ((pend.map fun (x : Nat) => Value.int .u8 x) ++ [.int .u64 (len : Nat)])

theorem hcells_length {st pend : List Nat} {len : Nat} (hs : st.length = 8) (hp : pend.length = 64) : (hcells st pend len).length = 73 := by simp [hcells, hs, hp]
theorem hcells_state {st pend : List Nat} {len i : Nat} (hs : st.length = 8) (hi : i < 8) : (hcells st pend len)[i]? = some (.int .u32 (st.getD i 0 : Nat)) := by
  unfold hcells
  rw [List.getElem?_append_left (by simp; omega), List.getElem?_map, List.getD_eq_getElem?_getD]
  simp [show i < st.length by omega]
theorem hcells_pend {st pend : List Nat} {len i : Nat} (hs : st.length = 8) (hp : pend.length = 64) (hi : i < 64) : (hcells st pend len)[8 + i]? = some (.int .u8 (pend.getD i 0 : Nat)) := by
  unfold hcells
  rw [List.getElem?_append_right (by simp; omega), List.length_map, hs, Nat.add_sub_cancel_left, List.getElem?_append_left (by simp; omega), List.getElem?_map, List.getD_eq_getElem?_getD]
  simp [show i < pend.length by omega]
theorem hcells_len {st pend : List Nat} {len : Nat} (hs : st.length = 8) (hp : pend.length = 64) : (hcells st pend len)[72]? = some (.int .u64 (len : Nat)) := by
  unfold hcells
  rw [List.getElem?_append_right (by simp; omega), List.length_map, hs, List.getElem?_append_right (by simp; omega)]
  simp [hp]
theorem hcells_set_state {st pend : List Nat} {len i x : Nat} (hs : st.length = 8) (hi : i < 8) : (hcells st pend len).set i (.int .u32 x) = hcells (st.set i x) pend len := by
  unfold hcells
  rw [List.set_append_left _ _ (by simp; omega), List.map_set]
theorem hcells_set_len {st pend : List Nat} {len x : Nat} (hs : st.length = 8) (hp : pend.length = 64) : (hcells st pend len).set 72 (.int .u64 x) = hcells st pend x := by
  unfold hcells
  rw [List.set_append_right _ _ (by simp; omega), List.length_map, hs, List.set_append_right _ _ (by simp; omega)]
  simp [hp]
theorem hcells_one (st pend : List Nat) (len : Nat) : ((hcells st pend len).toArray).all (·.oneCell') = true := by
  rw [List.all_toArray, List.all_eq_true]
  intro v hv
  simp only [hcells, List.mem_append, List.mem_map, List.mem_cons, List.not_mem_nil, or_false] at hv
  rcases hv with ⟨x, _, rfl⟩ | ⟨x, _, rfl⟩ | rfl <;> rfl

/-- The hash's block. -/
def HBox (w : World) (g : Nat) (st pend : List Nat) (len : Nat) : Prop := w.heap[g]? = some (.cells (hcells st pend len).toArray 46 (0, 0))

theorem HBox.lt {w : World} {g : Nat} {st pend : List Nat} {len : Nat} (h : HBox w g st pend len) : g < w.heap.size := (Array.getElem?_eq_some_iff.1 h).1
theorem HBox.cell {w : World} {g : Nat} {st pend : List Nat} {len : Nat} (h : HBox w g st pend len) {i : Nat} {v : Value} (hv : (hcells st pend len)[i]? = some v) : w.cell? ⟨g, i, none⟩ = some v := by
  unfold HBox at h
  simp [World.cell?, h, hv]
theorem HBox.free {w : World} {g : Nat} {st pend : List Nat} {len : Nat} (h : HBox w g st pend len) (i : Nat) : w.frozen? ⟨g, i, none⟩ = false := by
  unfold HBox at h
  simp [World.frozen?, h]
theorem HBox.below {w w' : World} {g : Nat} {st pend : List Nat} {len : Nat} (h : HBox w g st pend len) {B : Nat} (hb : Below B w w') (hg : g < B) : HBox w' g st pend len := by
  unfold HBox at *
  rw [hb.block g hg]; exact h
theorem HBox.but {w w' : World} {g k : Nat} {st pend : List Nat} {len : Nat} (h : HBox w g st pend len) (hb : But k w w') (hk : g ≠ k) : HBox w' g st pend len := by
  unfold HBox at *
  rw [hb.block g (by exact (Array.getElem?_eq_some_iff.1 h).1) hk]; exact h
theorem HBox.set {w : World} {g : Nat} {st pend : List Nat} {len : Nat} (h : HBox w g st pend len) (i : Nat) (v : Value) {st' pend' : List Nat} {len' : Nat} (he : (hcells st pend len).set i v = hcells st' pend' len') :
    HBox (w.setCell ⟨g, i, none⟩ v) g st' pend' len' := by
  unfold HBox at *
  simp only [World.setCell, Array.getElem?_modify, if_true, h, Option.map_some]
  rw [← he]
  simp

/-- The globals: the first state and the constants. -/
structure Tabs (w : World) : Prop where
  first : ∃ t fr, w.heap[(0 : Nat)]? = some (.cells ((hnull.map fun (x : Nat) => Value.int .u32 x).toArray) t fr)
  size : 2 ≤ w.heap.size
  kay : ∀ i, i < 64 → w.cell? ⟨1, i, none⟩ = some (.int .u32 (kays.getD i 0 : Nat))

theorem Tabs.below {w w' : World} (h : Tabs w) {B : Nat} (hb : Below B w w') (hB : 2 ≤ B) : Tabs w' :=
  ⟨by rw [hb.block _ (by omega)]; exact h.first, Nat.le_trans h.size hb.size, fun i hi => by rw [hb.cell (p := ⟨1, i, none⟩) (by show (1 : Nat) < B; omega)]; exact h.kay i hi⟩
theorem Tabs.but {w w' : World} (h : Tabs w) {g : Nat} (hb : But g w w') (hg : 2 ≤ g) : Tabs w' := h.below (hb.below hg h.size) (Nat.le_refl _)

/-- A hash of these bytes. -/
structure HashAt (w : World) (g : Nat) (m : List Nat) : Prop where
  ex : ∃ pend, pend.length = 64 ∧ Bytes8 pend ∧ HBox w g (blocks m (m.length / 64)) pend (m.length % 18446744073709551616) ∧ pend.take (m.length % 64) = m.drop (64 * (m.length / 64))

theorem HashAt.below {w w' : World} {g : Nat} {m : List Nat} (h : HashAt w g m) {B : Nat} (hb : Below B w w') (hg : g < B) : HashAt w' g m :=
  let ⟨p, h1, h2, h3, h4⟩ := h.ex
  ⟨p, h1, h2, h3.below hb hg, h4⟩
theorem HashAt.but {w w' : World} {g k : Nat} {m : List Nat} (h : HashAt w g m) (hb : But k w w') (hg : g ≠ k) : HashAt w' g m :=
  let ⟨p, h1, h2, h3, h4⟩ := h.ex
  ⟨p, h1, h2, h3.but hb hg, h4⟩
theorem HashAt.lt {w : World} {g : Nat} {m : List Nat} (h : HashAt w g m) : g < w.heap.size := let ⟨_, _, _, h3, _⟩ := h.ex; h3.lt
end Go.Proofs.YtgpkkcielpogoaaDoor
