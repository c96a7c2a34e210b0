/- The state's bytes; what comes behind the bytes. -/
import Derived.Test.YtgpkkcielpogoaaDoorShaH
import Derived.BigRegion
namespace Go.Proofs.YtgpkkcielpogoaaDoor
open Go Go.RowKit

theorem make_u8i {i : Int} (n : Nat) (hi : i = (n : Nat)) (h : n ≤ 4294967296) (w : World) : (Instr.makeSlice 25 (.int .i64 i) (.int .i64 i)).run Tryd.prog w =
    .ok (.slice (some ⟨w.heap.size, 0, none⟩) n n) (w.alloc (.cells (zeros .u8 n) 5)) := by subst hi; exact make_u8 n h w

theorem wbytes_get : ∀ (st : List Nat) (q r : Nat), q < st.length → r < 4 → (st.flatMap wbytes)[4 * q + r]? = some (st.getD q 0 / 256 ^ (3 - r) % 256)
  | [], q, r, h, _ => by simp at h
  | x :: st, 0, r, _, hr => by
    rw [List.flatMap_cons]
    match r, hr with
    | 0, _ => rfl
    | 1, _ => rfl
    | 2, _ => rfl
    | 3, _ => simp [wbytes]
  | x :: st, q + 1, r, h, hr => by
    rw [List.flatMap_cons, List.getElem?_append_right (by simp [wbytes]; omega)]
    simp only [wbytes, List.length_cons, List.length_nil]
    rw [show 4 * (q + 1) + r - (0 + 1 + 1 + 1 + 1) = 4 * q + r by omega, wbytes_get st q r (by simpa using h) hr]
    simp
theorem wbytes_length : ∀ (st : List Nat), (st.flatMap wbytes).length = 4 * st.length
  | [] => rfl
  | x :: st => by rw [List.flatMap_cons, List.length_append, wbytes_length st]; simp [wbytes]; omega

/-- A row that is filled from the front. -/
theorem pad_set {L : List Nat} {k x : Nat} (n : Nat) (hk : L[k]? = some x) (hn : L.length = n) : (L.take k ++ List.replicate (n - k) 0).set k x = L.take (k + 1) ++ List.replicate (n - (k + 1)) 0 := by
  have hl : k < L.length := (List.getElem?_eq_some_iff.1 hk).1
  have ht : (L.take k).length = k := by simp; omega
  rw [List.set_append_right _ _ (by omega), ht, Nat.sub_self, show n - k = (n - (k + 1)) + 1 by omega, List.replicate_succ, List.set_cons_zero, List.take_add_one, hk]
  simp

set_option maxHeartbeats 2000000 in
theorem bytes_calls (w : World) (g : Nat) (st pend : List Nat) (len : Nat) (hs : st.length = 8) (hst : Words st) (hH : HBox w g st pend len) :
    Calls Tryd.prog 17 #[.pointer (some ⟨g, 0, none⟩)] w fun e w' => e = .returned (.slice (some ⟨w.heap.size, 0, none⟩) 32 32) ∧ Below w.heap.size w w' ∧ Blk w' w.heap.size 5 .u8 (st.flatMap wbytes) := by
  have hmk := fun wx => make_u8i (i := 32) 32 rfl (by omega) wx
  have hL := wbytes_length st
  rw [hs] at hL
  obtain ⟨L, hLe⟩ : ∃ L, st.flatMap wbytes = L := ⟨_, rfl⟩
  have HG : Hid (∀ q r, q < 8 → r < 4 → L[4 * q + r]? = some (st.getD q 0 / 256 ^ (3 - r) % 256)) := fun q r hq hr => by rw [← hLe]; exact wbytes_get st q r (by omega) hr
  rw [hLe] at hL ⊢
  clear hLe
  have HL := Lib.hid hL
  clear hL
  go_enter Tryd.func17, Tryd.ntmps17
  go_wp2
  go_loopw [8] (fun i wr => ∃ k : Nat, k ≤ 32 ∧ i = .int .i64 k ∧ w.heap.size < wr.heap.size ∧ Below w.heap.size w wr ∧ Blk wr w.heap.size 5 .u8 (L.take k ++ List.replicate (32 - k) 0)) (fun i _ => 32 - (intOf i).toNat)
  case atStart => exact ⟨0, by omega, rfl, by simp, (Below.refl _ _).alloc (Nat.le_refl _) _, Blk.zeros w 5 .u8 32⟩
  case round =>
    obtain ⟨k, hk, rfl, hsz, hbel, hblk⟩ := hrel
    by_cases hk32 : k < 32
    · obtain ⟨q, r, rfl, hr⟩ : ∃ q r, k = 4 * q + r ∧ r < 4 := ⟨k / 4, k % 4, by omega, by omega⟩
      have hq : q < 8 := by omega
      have hx := HG.out q r hq hr
      have hxw := hst.get q
      have hc : wr.cell? ⟨g, q, none⟩ = some (.int .u32 (st.getD q 0 : Nat)) := by
        rw [(bcell hbel).1 _ _ hH.lt]
        exact hH.cell (hcells_state hs hq)
      have hset := Lib.hid (pad_set 32 hx HL.out)
      have e0 := hblk.cell (i := 4 * q + r) (x := 0) (by rw [List.getElem?_append_right (by simp; have := HL.out; omega)]; simp [List.getElem?_replicate]; have := HL.out; omega)
      have e1 := hblk.free (4 * q + r)
      have hne : g ≠ w.heap.size := by have := hH.lt; omega
      generalize st.getD q 0 = x at *
      have HX := Lib.hid hx
      clear hx
      have t1 : ((4 * q + r : Nat) : Int) / 4 = (q : Int) := by omega
      obtain rfl | rfl | rfl | rfl : r = 0 ∨ r = 1 ∨ r = 2 ∨ r = 3 := by omega
      · rw [Nat.add_zero] at e0 e1
        go_wp2
        have hv : (x : Int) / 16777216 = ((x / 256 ^ (3 - 0) % 256 : Nat) : Int) := by
          rw [show (256 : Nat) ^ (3 - 0) = 16777216 from rfl]; omega
        try rw [hv]
        go_roundw
        case rel => exact ⟨4 * q + 0 + 1, by omega, by go_num, by simpa using hsz, hbel.setCell (by simp) _, by have h := hblk.set (4 * q + 0) (x / 256 ^ (3 - 0) % 256); rw [hset.out] at h; exact h⟩
        case measure => simp [intOf]; omega
      · have hc' : wr.cell? ⟨g, (4 * q + 1) / 4, none⟩ = some (.int .u32 (x : Nat)) := by rw [show (4 * q + 1) / 4 = q by omega]; exact hc
        go_wp2
        have hv : (x : Int) / 65536 % 256 = ((x / 256 ^ (3 - 1) % 256 : Nat) : Int) := by
          rw [show (256 : Nat) ^ (3 - 1) = 65536 from rfl]; omega
        try rw [hv]
        go_roundw
        case rel => exact ⟨4 * q + 1 + 1, by omega, by go_num, by simpa using hsz, hbel.setCell (by simp) _, by have h := hblk.set (4 * q + 1) (x / 256 ^ (3 - 1) % 256); rw [hset.out] at h; exact h⟩
        case measure => simp [intOf]; omega
      · have hc' : wr.cell? ⟨g, (4 * q + 2) / 4, none⟩ = some (.int .u32 (x : Nat)) := by rw [show (4 * q + 2) / 4 = q by omega]; exact hc
        go_wp2
        have hv : (x : Int) / 256 % 256 = ((x / 256 ^ (3 - 2) % 256 : Nat) : Int) := by
          rw [show (256 : Nat) ^ (3 - 2) = 256 from rfl]; omega
        try rw [hv]
        go_roundw
        case rel => exact ⟨4 * q + 2 + 1, by omega, by go_num, by simpa using hsz, hbel.setCell (by simp) _, by have h := hblk.set (4 * q + 2) (x / 256 ^ (3 - 2) % 256); rw [hset.out] at h; exact h⟩
        case measure => simp [intOf]; omega
      · have hc' : wr.cell? ⟨g, (4 * q + 3) / 4, none⟩ = some (.int .u32 (x : Nat)) := by rw [show (4 * q + 3) / 4 = q by omega]; exact hc
        go_wp2
        have hv : (x : Int) % 256 = ((x / 256 ^ (3 - 3) % 256 : Nat) : Int) := by
          rw [show (256 : Nat) ^ (3 - 3) = 1 from rfl]; omega
        try rw [hv]
        go_roundw
        case rel => exact ⟨4 * q + 3 + 1, by omega, by go_num, by simpa using hsz, hbel.setCell (by simp) _, by have h := hblk.set (4 * q + 3) (x / 256 ^ (3 - 3) % 256); rw [hset.out] at h; exact h⟩
        case measure => simp [intOf]; omega
    · obtain rfl : k = 32 := by omega
      have hb : Blk wr w.heap.size 5 .u8 L := by
        have h := hblk
        rw [List.take_of_length_le (by have := HL.out; omega), Nat.sub_self, List.replicate_zero, List.append_nil] at h
        exact h
      go_wp2
      go_ret
      exact ⟨rfl, hbel, hb⟩
end Go.Proofs.YtgpkkcielpogoaaDoor
