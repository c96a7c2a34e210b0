/- The document's product of long numbers. -/
import Derived.Test.YtgpkkcielpogoaaDoorFixM
import Derived.Test.YtgpkkcielpogoaaDoorShaT
namespace Go.Proofs.YtgpkkcielpogoaaDoor
open Go Go.RowKit

theorem Tryd.info_u64 : (Tryd.prog.info? 44).map (fun i => (i.zero, i.size, i.bytes)) = some (some (.int .u64 0), 1, 8) := by kernel_rfl
theorem make_u64 {i : Int} (n : Nat) (hi : i = (n : Nat)) (h : n ≤ 4294967296) (w : World) : (Instr.makeSlice 59 (.int .i64 i) (.int .i64 i)).run Tryd.prog w =
    .ok (.slice (some ⟨w.heap.size, 0, none⟩) n n) (w.alloc (.cells (zeros .u64 n) 44)) := by
  subst hi
  obtain ⟨i, hi, hz, hs, hb⟩ := info_parts Tryd.info_u64
  have := run_make (P := Tryd.prog) w 59 44 i (.int .u64 0) Tryd.underlying59 hi hz .i64 .i64 n n (by omega) (Int.le_refl _) (by rw [hb]; omega) (by omega)
  simp only [Int.toNat_natCast, hs, Nat.mul_one] at this
  rw [this, ← zeros_eq]
  rfl

theorem getD_cell {xs : List Nat} {i : Nat} (h : i < xs.length) : xs[i]? = some (xs.getD i 0) := by
  rw [List.getD_eq_getElem?_getD, List.getElem?_eq_getElem h]; rfl

theorem tims_zero (xs ys : List Nat) : tims xs ys 0 = List.replicate (xs.length + ys.length) 0 := rfl

set_option maxHeartbeats 4000000 in
set_option maxRecDepth 100000 in
theorem times_calls (w : World) (ga gb : Nat) (xs ys : List Nat) (na nb : Nat) (hA : Blk w ga 44 .u64 xs) (hB : Blk w gb 44 .u64 ys) (hna : na = xs.length) (hnb : nb = ys.length) (ha : na ≤ 100) (hb : nb ≤ 100) :
    Calls Tryd.prog 26 #[.slice (some ⟨ga, 0, none⟩) na na, .slice (some ⟨gb, 0, none⟩) nb nb] w fun e w' =>
      e = .returned (.slice (some ⟨w.heap.size, 0, none⟩) (na + nb) (na + nb)) ∧ Blk w' w.heap.size 44 .u64 (times xs ys) ∧ Below w.heap.size w w' := by
  have HA : Hold (Blk w ga 44 .u64 xs) := ⟨hA⟩
  have HB : Hold (Blk w gb 44 .u64 ys) := ⟨hB⟩
  have HL : Hold (na = xs.length ∧ nb = ys.length) := ⟨hna, hnb⟩
  obtain ⟨G, hG⟩ : ∃ G, w.heap.size = G := ⟨_, rfl⟩
  have hga : ga < G := hG ▸ hA.lt
  have hgb : gb < G := hG ▸ hB.lt
  have hmk := fun wx => make_u64 (i := (na : Int) + nb) (na + nb) (by omega) (by omega) wx
  have HK0 : Hold (Blk (w.alloc (.cells (zeros .u64 (na + nb)) 44)) G 44 .u64 (tims xs ys 0)) := ⟨by
    rw [tims_zero, ← hG, ← hna, ← hnb]; exact Blk.zeros w _ _ _⟩
  have HW0 : Hold (Below G w (w.alloc (.cells (zeros .u64 (na + nb)) 44))) := ⟨(Below.refl G w).alloc (by omega) _⟩
  clear hA hB hna hnb
  go_enter Tryd.func26, Tryd.ntmps26
  go_wp2
  generalize hw0 : World.alloc _ _ = w0 at *
  go_loopw [18] (fun iv w1 => ∃ i : Nat, i ≤ na ∧ iv = .int .i64 i ∧ Hold (Below G w w1) ∧ Hold (Blk w1 G 44 .u64 (tims xs ys i))) (fun iv _ => na - (intOf iv).toNat)
  case atStart => exact ⟨0, by omega, rfl, HW0, HK0⟩
  case round =>
    obtain ⟨i, hi, rfl, HW1, HK1⟩ := hrel
    by_cases hin : i < na
    · go_wp2
      go_loopw [7, 23] (fun cy kv w2 => ∃ k : Nat, k ≤ nb ∧ kv = .int .i64 k ∧ cy = .int .u64 ((trow xs ys i (tims xs ys i) k).2 : Nat) ∧ Hold (Below G w w2) ∧ Hold (Blk w2 G 44 .u64 (trow xs ys i (tims xs ys i) k).1)) (fun _ kv _ => nb - (intOf kv).toNat)
      case atStart => exact ⟨0, by omega, rfl, rfl, HW1, HK1⟩
      case round =>
        obtain ⟨k, hk, rfl, rfl, HW2, HK2⟩ := hrel
        by_cases hkn : k < nb
        · have c0 := (HA.out.below HW2.out hga).cell (i := i) (getD_cell (by have := HL.out.1; omega))
          have c1 := (HB.out.below HW2.out hgb).cell (i := k) (getD_cell (by have := HL.out.2; omega))
          have hl : (trow xs ys i (tims xs ys i) k).1.length = xs.length + ys.length := by rw [trow_length, tims_length]
          have c2 := HK2.out.cell (i := i + k) (getD_cell (by have := HL.out; omega))
          have e1 := HK2.out.free (i + k)
          have hik : ((i : Int) + k).toNat = i + k := by omega
          have hst : Hold (trow xs ys i (tims xs ys i) (k + 1) = tstep xs ys i k (trow xs ys i (tims xs ys i) k)) := ⟨rfl⟩
          unfold tstep at hst
          generalize trow xs ys i (tims xs ys i) k = S at *
          obtain ⟨o, cy⟩ := S
          simp only at *
          clear hl
          generalize xs.getD i 0 = x at *
          generalize ys.getD k 0 = y at *
          generalize o.getD (i + k) 0 = z at *
          obtain ⟨A, hA⟩ : ∃ A, x * y % 18446744073709551616 = A := ⟨_, rfl⟩
          rw [hA] at hst
          obtain ⟨B, hB⟩ : ∃ B, (A + z) % 18446744073709551616 = B := ⟨_, rfl⟩
          rw [hB] at hst
          obtain ⟨T, hT⟩ : ∃ T, (B + cy) % 18446744073709551616 = T := ⟨_, rfl⟩
          rw [hT] at hst
          have w1 : IntKind.u64.wrap ((x : Int) * y) = (A : Int) := by rw [IntKind.wrap_u64, ← hA]; simp
          have w2 : IntKind.u64.wrap ((A : Int) + z) = (B : Int) := by rw [IntKind.wrap_u64, ← hB]; simp
          have w3 : IntKind.u64.wrap ((B : Int) + cy) = (T : Int) := by rw [IntKind.wrap_u64, ← hT]; simp
          have hTl : T < 18446744073709551616 := by omega
          clear hA hB hT
          go_wp2
          go_region
          go_wp2
          go_roundw
          case rel =>
            rw [show (T : Int) % 4294967296 = ((T % 4294967296 : Nat) : Int) by omega, show (T : Int) / 4294967296 = ((T / 4294967296 : Nat) : Int) by omega]
            refine ⟨k + 1, by omega, by go_num, by rw [hst.out], ⟨(HW2.out.setCell (Nat.le_refl G) _).drew⟩, ⟨?_⟩⟩
            rw [hst.out]
            exact HK2.out.set (i + k) (T % 4294967296)
          case measure => simp only [intOf]; omega
        · obtain rfl : k = nb := by omega
          have hl : (trow xs ys i (tims xs ys i) k).1.length = xs.length + ys.length := by rw [trow_length, tims_length]
          have c2 := HK2.out.cell (i := i + k) (getD_cell (by have := HL.out; omega))
          have e1 := HK2.out.free (i + k)
          have hik : ((i : Int) + k).toNat = i + k := by omega
          have hst : Hold (tims xs ys (i + 1) = tadd ys i (trow xs ys i (tims xs ys i) k)) := ⟨by rw [HL.out.2]; rfl⟩
          unfold tadd at hst
          rw [← HL.out.2] at hst
          generalize trow xs ys i (tims xs ys i) k = S at *
          obtain ⟨o, cy⟩ := S
          simp only at *
          clear hl
          generalize o.getD (i + k) 0 = z at *
          obtain ⟨A, hA⟩ : ∃ A, (z + cy) % 18446744073709551616 = A := ⟨_, rfl⟩
          rw [hA] at hst
          have w2 : IntKind.u64.wrap ((z : Int) + cy) = (A : Int) := by rw [IntKind.wrap_u64, ← hA]; simp
          clear hA
          go_wp2
          go_roundw
          case rel =>
            refine ⟨i + 1, by omega, by go_num, ⟨(HW2.out.setCell (Nat.le_refl G) _)⟩, ⟨?_⟩⟩
            rw [hst.out]
            exact HK2.out.set (i + k) A
          case measure => simp only [intOf]; omega
    · obtain rfl : i = na := by omega
      have hf : Hold (tims xs ys i = times xs ys) := ⟨by rw [HL.out.1]; rfl⟩
      go_wp2
      go_ret
      subst hG
      exact ⟨rfl, by rw [← hf.out]; exact HK1.out, HW1.out⟩
end Go.Proofs.YtgpkkcielpogoaaDoor
