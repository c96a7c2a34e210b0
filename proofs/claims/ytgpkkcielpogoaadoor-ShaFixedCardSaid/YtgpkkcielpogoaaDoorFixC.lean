/- The document's constants and its first state, by roots. -/
import Derived.Test.YtgpkkcielpogoaaDoorFixP
import Derived.Test.YtgpkkcielpogoaaDoorFixR
import Derived.Test.YtgpkkcielpogoaaDoorFixK
import Derived.Test.YtgpkkcielpogoaaDoorRefT
namespace Go.Proofs.YtgpkkcielpogoaaDoor
open Go Go.RowKit

theorem laid_words (N e i : Nat) : Words (laid N e i) := by
  induction i with
  | zero => exact Words.zeros _
  | succ i ih =>
    intro y hy
    rcases List.mem_or_eq_of_mem_set hy with h1 | rfl
    · exact ih y h1
    · exact Nat.mod_lt _ (by omega)
theorem laid_succ (N e i : Nat) : laid N e (i + 1) = (laid N e i).set i (root (prime i) e) := rfl

/-- The world in which both arrays are laid. -/
def cworld (w : World) : World := (w.alloc (.cells (zeros .u32 64) 33)).alloc (.cells (zeros .u32 64) 33)
theorem cworld_is (w : World) : Below w.heap.size w (cworld w) ∧ Blk (cworld w) w.heap.size 33 .u32 (laid 64 3 0) ∧ Blk (cworld w) (w.heap.size + 1) 33 .u32 (laid 64 3 0) := by
  refine ⟨((Below.refl _ w).alloc (Nat.le_refl _) _).alloc (by simp) _, (Blk.zeros w 33 .u32 64).alloc _, ?_⟩
  have := Blk.zeros (w.alloc (.cells (zeros .u32 64) 33)) 33 .u32 64
  rw [show (w.alloc (.cells (zeros .u32 64) 33)).heap.size = w.heap.size + 1 by simp] at this
  exact this

set_option maxHeartbeats 4000000 in
set_option maxRecDepth 100000 in
theorem constants_calls (w : World) : Calls Tryd.prog 12 #[] w fun r w' => r = .returned (.agg (w32 kays)) ∧ Below w.heap.size w w' := by
  obtain ⟨h1, h2, h3⟩ := cworld_is w
  obtain ⟨G, hG⟩ : ∃ G, w.heap.size = G := ⟨_, rfl⟩
  rw [hG] at h1 h2 h3
  have HW0 : Hold (Below G w (cworld w)) := ⟨h1⟩
  have HA0 : Hold (Blk (cworld w) G 33 .u32 (laid 64 3 0)) := ⟨h2⟩
  have HB0 : Hold (Blk (cworld w) (G + 1) 33 .u32 (laid 64 3 0)) := ⟨h3⟩
  have HG : Hold (G = w.heap.size) := ⟨hG.symm⟩
  obtain ⟨K, hK⟩ : ∃ K, w32 kays = K := ⟨_, rfl⟩
  rw [hK]
  have HK : Hold (w32 kays = K) := ⟨hK⟩
  clear h1 h2 h3 hK
  go_enter Tryd.func12, Tryd.ntmps12
  go_wp2
  go_loopw [2] (fun iv w1 => ∃ i : Nat, i ≤ 64 ∧ iv = .int .i64 i ∧ Hold (Below G w w1) ∧ Hold (Blk w1 G 33 .u32 (laid 64 3 0)) ∧ Hold (Blk w1 (G + 1) 33 .u32 (laid 64 3 i))) (fun iv _ => 64 - (intOf iv).toNat)
  case atStart => exact ⟨0, by omega, rfl, HW0, HA0, HB0⟩
  case round =>
    obtain ⟨i, hi, rfl, HW1, HA1, HB1⟩ := hrel
    by_cases hin : i < 64
    · have hst : Hold (laid 64 3 (i + 1) = (laid 64 3 i).set i (root (prime i) 3)) := ⟨laid_succ _ _ _⟩
      go_wp2_with fail
      refine (prime_calls _ i (by omega)).mono ?_
      rintro r w2 ⟨rfl, rfl⟩
      go_wp2_with fail
      refine (root_calls _ (prime i) 3 (by omega)).mono ?_
      rintro r w2 ⟨rfl, hb⟩
      have HW2 : Hold (Below G w w2) := ⟨HW1.out.trans (hb.mono (by have := HB1.out.lt; omega))⟩
      have HA2 : Hold (Blk w2 G 33 .u32 (laid 64 3 0)) := ⟨HA1.out.below hb HA1.out.lt⟩
      have HB2 : Hold (Blk w2 (G + 1) 33 .u32 (laid 64 3 i)) := ⟨HB1.out.below hb HB1.out.lt⟩
      have c0 := HB2.out.cell (i := i) (getD_cell (by rw [laid_length]; omega))
      have e0 := HB2.out.free i
      generalize root (prime i) 3 = v at *
      generalize (laid 64 3 i).getD i 0 = z at *
      clear hb HW1 HA1 HB1
      go_wp2
      go_roundw
      case rel =>
        refine ⟨i + 1, by omega, by go_num, ⟨HW2.out.setCell (by simp) _⟩, ⟨HA2.out.other (by simp) _⟩, ⟨?_⟩⟩
        rw [hst.out]
        exact HB2.out.set i v
      case measure => simp only [intOf]; omega
    · obtain rfl : i = 64 := by omega
      rw [laid_64] at HB1
      have HI : Hold _ := ⟨info_w64 (l := kays) rfl⟩
      have H1 : Hold _ := ⟨w32_one kays⟩
      have HA : Hold (wr.heap[G]? = some (.cells (zeros .u32 64) 33 (0, 0))) := ⟨HA1.out⟩
      have HB : Hold (wr.heap[G + 1]? = some (.cells (w32 kays) 33 (0, 0))) := ⟨HB1.out⟩
      clear HA1 HB1
      have hK := HK.out
      rw [hK] at HI H1 HB
      obtain ⟨Z, hZ⟩ : ∃ Z, zeros .u32 64 = Z := ⟨_, rfl⟩
      rw [hZ] at HA
      have HS : Hold (Z.size = K.size) := ⟨by rw [← hZ, ← hK]; rfl⟩
      clear hK hZ
      go_wp2_with (first | (refine wpList_load_row rfl 33 _ rfl (G + 1) rfl 33 K (0, 0) _ HB.out Tryd.underlying33 rfl HI.out ?_) | (refine wpList_store_row rfl 33 _ _ rfl G K rfl rfl 33 Z HA.out HI.out HS.out H1.out ?_))
      have hend := setRow_heap wr G Z K 33 (0, 0) HA.out
      refine bodyPost_ret (v := .agg K) (results_cell_row Tryd.results12 _ _ G 33 _ (0, 0) _ rfl hend Tryd.underlying33 rfl HI.out) rfl ⟨rfl, by rw [← HG.out]; exact below_setRow HW1.out (Nat.le_refl _) _⟩

/-- The world in which both arrays are laid. -/
def sworld (w : World) : World := (w.alloc (.cells (zeros .u32 8) 34)).alloc (.cells (zeros .u32 8) 34)
theorem sworld_is (w : World) : Below w.heap.size w (sworld w) ∧ Blk (sworld w) w.heap.size 34 .u32 (laid 8 2 0) ∧ Blk (sworld w) (w.heap.size + 1) 34 .u32 (laid 8 2 0) := by
  refine ⟨((Below.refl _ w).alloc (Nat.le_refl _) _).alloc (by simp) _, (Blk.zeros w 34 .u32 8).alloc _, ?_⟩
  have := Blk.zeros (w.alloc (.cells (zeros .u32 8) 34)) 34 .u32 8
  rw [show (w.alloc (.cells (zeros .u32 8) 34)).heap.size = w.heap.size + 1 by simp] at this
  exact this

set_option maxHeartbeats 4000000 in
set_option maxRecDepth 100000 in
theorem first_calls (w : World) : Calls Tryd.prog 13 #[] w fun r w' => r = .returned (.agg (w32 hnull)) ∧ Below w.heap.size w w' := by
  obtain ⟨h1, h2, h3⟩ := sworld_is w
  obtain ⟨G, hG⟩ : ∃ G, w.heap.size = G := ⟨_, rfl⟩
  rw [hG] at h1 h2 h3
  have HW0 : Hold (Below G w (sworld w)) := ⟨h1⟩
  have HA0 : Hold (Blk (sworld w) G 34 .u32 (laid 8 2 0)) := ⟨h2⟩
  have HB0 : Hold (Blk (sworld w) (G + 1) 34 .u32 (laid 8 2 0)) := ⟨h3⟩
  have HG : Hold (G = w.heap.size) := ⟨hG.symm⟩
  obtain ⟨K, hK⟩ : ∃ K, w32 hnull = K := ⟨_, rfl⟩
  rw [hK]
  have HK : Hold (w32 hnull = K) := ⟨hK⟩
  clear h1 h2 h3 hK
  go_enter Tryd.func13, Tryd.ntmps13
  go_wp2
  go_loopw [2] (fun iv w1 => ∃ i : Nat, i ≤ 8 ∧ iv = .int .i64 i ∧ Hold (Below G w w1) ∧ Hold (Blk w1 G 34 .u32 (laid 8 2 0)) ∧ Hold (Blk w1 (G + 1) 34 .u32 (laid 8 2 i))) (fun iv _ => 8 - (intOf iv).toNat)
  case atStart => exact ⟨0, by omega, rfl, HW0, HA0, HB0⟩
  case round =>
    obtain ⟨i, hi, rfl, HW1, HA1, HB1⟩ := hrel
    by_cases hin : i < 8
    · have hst : Hold (laid 8 2 (i + 1) = (laid 8 2 i).set i (root (prime i) 2)) := ⟨laid_succ _ _ _⟩
      go_wp2_with fail
      refine (prime_calls _ i (by omega)).mono ?_
      rintro r w2 ⟨rfl, rfl⟩
      go_wp2_with fail
      refine (root_calls _ (prime i) 2 (by omega)).mono ?_
      rintro r w2 ⟨rfl, hb⟩
      have HW2 : Hold (Below G w w2) := ⟨HW1.out.trans (hb.mono (by have := HB1.out.lt; omega))⟩
      have HA2 : Hold (Blk w2 G 34 .u32 (laid 8 2 0)) := ⟨HA1.out.below hb HA1.out.lt⟩
      have HB2 : Hold (Blk w2 (G + 1) 34 .u32 (laid 8 2 i)) := ⟨HB1.out.below hb HB1.out.lt⟩
      have c0 := HB2.out.cell (i := i) (getD_cell (by rw [laid_length]; omega))
      have e0 := HB2.out.free i
      generalize root (prime i) 2 = v at *
      generalize (laid 8 2 i).getD i 0 = z at *
      clear hb HW1 HA1 HB1
      go_wp2
      go_roundw
      case rel =>
        refine ⟨i + 1, by omega, by go_num, ⟨HW2.out.setCell (by simp) _⟩, ⟨HA2.out.other (by simp) _⟩, ⟨?_⟩⟩
        rw [hst.out]
        exact HB2.out.set i v
      case measure => simp only [intOf]; omega
    · obtain rfl : i = 8 := by omega
      rw [laid_8] at HB1
      have HI : Hold _ := ⟨info_w8 (l := hnull) rfl⟩
      have H1 : Hold _ := ⟨w32_one hnull⟩
      have HA : Hold (wr.heap[G]? = some (.cells (zeros .u32 8) 34 (0, 0))) := ⟨HA1.out⟩
      have HB : Hold (wr.heap[G + 1]? = some (.cells (w32 hnull) 34 (0, 0))) := ⟨HB1.out⟩
      clear HA1 HB1
      have hK := HK.out
      rw [hK] at HI H1 HB
      obtain ⟨Z, hZ⟩ : ∃ Z, zeros .u32 8 = Z := ⟨_, rfl⟩
      rw [hZ] at HA
      have HS : Hold (Z.size = K.size) := ⟨by rw [← hZ, ← hK]; rfl⟩
      clear hK hZ
      go_wp2_with (first | (refine wpList_load_row rfl 34 _ rfl (G + 1) rfl 34 K (0, 0) _ HB.out Tryd.underlying34 rfl HI.out ?_) | (refine wpList_store_row rfl 34 _ _ rfl G K rfl rfl 34 Z HA.out HI.out HS.out H1.out ?_))
      have hend := setRow_heap wr G Z K 34 (0, 0) HA.out
      refine bodyPost_ret (v := .agg K) (results_cell_row Tryd.results13 _ _ G 34 _ (0, 0) _ rfl hend Tryd.underlying34 rfl HI.out) rfl ⟨rfl, by rw [← HG.out]; exact below_setRow HW1.out (Nat.le_refl _) _⟩
end Go.Proofs.YtgpkkcielpogoaaDoor
