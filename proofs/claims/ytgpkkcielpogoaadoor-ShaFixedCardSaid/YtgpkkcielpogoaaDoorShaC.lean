/- What comes behind the bytes; a new hash; a copy of one. -/
import Derived.Test.YtgpkkcielpogoaaDoorShaB
namespace Go.Proofs.YtgpkkcielpogoaaDoor
open Go Go.RowKit

theorem make_u8u {i : Int} (n : Nat) (hi : i = (n : Nat)) (h : n ≤ 4294967296) (w : World) : (Instr.makeSlice 25 (.int .u64 i) (.int .u64 i)).run Tryd.prog w =
    .ok (.slice (some ⟨w.heap.size, 0, none⟩) n n) (w.alloc (.cells (zeros .u8 n) 5)) := by
  subst hi
  obtain ⟨i, hi, hz, hs, hb⟩ := info_parts Tryd.info_u8
  have := run_make (P := Tryd.prog) w 25 5 i (.int .u8 0) Tryd.underlying25 hi hz .u64 .u64 n n (by omega) (Int.le_refl _) (by rw [hb]; omega) (by omega)
  simp only [Int.toNat_natCast, hs, Nat.mul_one] at this
  rw [this, ← zeros_eq]
  rfl

theorem behind_mod (n : Nat) : behind (n % 18446744073709551616) = behind n := by
  unfold behind
  rw [show noughts (n % 18446744073709551616) = noughts n by unfold noughts; omega, show n % 18446744073709551616 * 8 % 18446744073709551616 = n * 8 % 18446744073709551616 by omega]

/-- What is laid while the length is written. -/
def bpart (nn M k : Nat) : List Nat := 128 :: (List.replicate (nn + (8 - k)) 0 ++ (be8 M).drop (8 - k))

theorem bpart_zero (nn M : Nat) : bpart nn M 0 = (List.replicate (nn + 9) 0).set 0 128 := by
  unfold bpart
  rw [List.drop_of_length_le (by rw [be8_length]; omega), List.append_nil]
  rfl
theorem bpart_all (nn M : Nat) : bpart nn M 8 = 128 :: (List.replicate nn 0 ++ be8 M) := rfl
theorem bpart_length (nn M k : Nat) (hk : k ≤ 8) : (bpart nn M k).length = nn + 9 := by simp [bpart, be8_length]; omega
theorem bpart_set (nn M k : Nat) (hk : k < 8) : (bpart nn M k).set (nn + 8 - k) (M / 2 ^ (8 * k) % 256) = bpart nn M (k + 1) := by
  unfold bpart
  rw [show nn + 8 - k = (nn + (8 - (k + 1))) + 1 by omega, List.set_cons_succ]
  congr 1
  rw [show nn + (8 - k) = (nn + (8 - (k + 1))) + 1 by omega, List.replicate_succ', List.append_assoc, List.set_append_right _ _ (by simp), List.length_replicate, Nat.sub_self]
  congr 1
  have h : 8 - (k + 1) < (be8 M).length := by rw [be8_length]; omega
  rw [List.singleton_append, List.set_cons_zero, List.drop_eq_getElem_cons h, show 8 - (k + 1) + 1 = 8 - k by omega]
  congr 1
  simp only [be8, List.getElem_map, List.getElem_range]
  rw [show 7 - (8 - (k + 1)) = k by omega]
theorem bpart_get (nn M k : Nat) (hk : k < 8) : (bpart nn M k)[nn + 8 - k]? = some 0 := by
  unfold bpart
  rw [show nn + 8 - k = (nn + (8 - (k + 1))) + 1 by omega, List.getElem?_cons_succ, List.getElem?_append_left (by simp; omega)]
  simp [List.getElem?_replicate]; omega

set_option maxHeartbeats 2000000 in
theorem behind_calls (w : World) (N : Nat) (hN : N < 18446744073709551616) :
    Calls Tryd.prog 16 #[.int .u64 N] w fun e w' => e = .returned (.slice (some ⟨w.heap.size, 0, none⟩) (noughts N + 9) (noughts N + 9)) ∧ Below w.heap.size w w' ∧ Blk w' w.heap.size 5 .u8 (behind N) := by
  obtain ⟨nn, hnn⟩ : ∃ nn, noughts N = nn := ⟨_, rfl⟩
  have hn63 : nn < 64 := by rw [← hnn]; unfold noughts; omega
  have t1 : (119 - (N : Int) % 64) % 64 = (nn : Int) := by rw [← hnn]; unfold noughts; omega
  have HB : Hid (behind N = bpart nn (N * 8 % 18446744073709551616) 8) := by unfold behind; rw [hnn]; rfl
  rw [hnn]
  clear hnn
  have hmk := fun wx => make_u8u (i := 1 + (nn : Int) + 8) (nn + 9) (by omega) (by omega) wx
  go_enter Tryd.func16, Tryd.ntmps16
  go_wp2
  obtain ⟨M, hM⟩ : ∃ M, N * 8 % 18446744073709551616 = M := ⟨_, rfl⟩
  have hM2 : IntKind.u64.wrap ((N : Int) * 8) = (M : Int) := by
    show (N : Int) * 8 % 18446744073709551616 = (M : Int)
    omega
  have hM64 : M < 18446744073709551616 := by omega
  rw [hM] at HB
  clear hM
  simp only [hM2]
  clear hM2
  go_loopw [19] (fun i wr => ∃ k : Nat, k ≤ 8 ∧ i = .int .i64 k ∧ w.heap.size < wr.heap.size ∧ Below w.heap.size w wr ∧ Blk wr w.heap.size 5 .u8 (bpart nn M k)) (fun i _ => 8 - (intOf i).toNat)
  case atStart =>
    refine ⟨0, by omega, rfl, by simp, (Below.refl _ _).alloc (Nat.le_refl _) _, ?_⟩
    rw [bpart_zero]
    have e : (zeros .u8 (nn + 9)).setIfInBounds 0 (.int .u8 128) = (((List.replicate (nn + 9) 0).set 0 128).map fun (x : Nat) => Value.int .u8 x).toArray := by
      unfold zeros
      rw [List.map_set]
      rfl
    rw [e]
    exact heap_alloc_new w _
  case round =>
    obtain ⟨k, hk, rfl, hsz, hbel, hblk⟩ := hrel
    by_cases hk8 : k < 8
    · have e0 := hblk.cell (bpart_get nn M k hk8)
      have e1 := hblk.free (nn + 8 - k)
      have hset := Lib.hid (bpart_set nn M k hk8)
      have a1 : ((nn : Int) + 8 - k).toNat = nn + 8 - k := by omega
      go_wp2
      have hv : (M : Int) / 2 ^ (k * 8) % 256 = ((M / 2 ^ (8 * k) % 256 : Nat) : Int) := by
        rw [Int.natCast_emod, Int.natCast_ediv, Int.natCast_pow, Nat.mul_comm k 8]; rfl
      rw [hv]
      go_roundw
      case rel =>
        refine ⟨k + 1, by omega, by go_num, by simpa using hsz, hbel.setCell (by simp) _, ?_⟩
        have h := hblk.set (nn + 8 - k) (M / 2 ^ (8 * k) % 256)
        rw [hset.out] at h
        exact h
      case measure => simp [intOf]; omega
    · obtain rfl : k = 8 := by omega
      go_wp2
      go_ret
      refine ⟨rfl, hbel, ?_⟩
      rw [HB.out]; exact hblk
end Go.Proofs.YtgpkkcielpogoaaDoor
