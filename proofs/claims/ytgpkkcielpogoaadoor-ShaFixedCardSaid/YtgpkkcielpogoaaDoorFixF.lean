/- The document's question: is a power at most a prime. -/
import Derived.Test.YtgpkkcielpogoaaDoorFixT
namespace Go.Proofs.YtgpkkcielpogoaaDoor
open Go Go.RowKit

theorem u64s_one (w : World) : Blk (w.alloc (.cells #[.int .u64 1] 44)) w.heap.size 44 .u64 [1] := by
  unfold Blk
  exact heap_alloc_new w _
theorem u64s_two (w : World) (a b : Nat) : Blk (w.alloc (.cells #[.int .u64 a, .int .u64 b] 44)) w.heap.size 44 .u64 [a, b] := by
  unfold Blk
  exact heap_alloc_new w _

/-- The world in which the two long numbers are laid. -/
def fworld (w : World) (x : Nat) : World := (w.alloc (.cells #[.int .u64 1] 44)).alloc (.cells #[.int .u64 ((x : Int) % 4294967296), .int .u64 ((x : Int) / 4294967296)] 44)
theorem fworld_is (w : World) (x : Nat) : Below w.heap.size w (fworld w x) ∧ Blk (fworld w x) w.heap.size 44 .u64 (fpow x 0) ∧ Blk (fworld w x) (w.heap.size + 1) 44 .u64 [x % 4294967296, x / 4294967296] := by
  refine ⟨((Below.refl _ w).alloc (Nat.le_refl _) _).alloc (by simp) _, (u64s_one w).alloc _, ?_⟩
  have := u64s_two (w.alloc (.cells #[.int .u64 1] 44)) (x % 4294967296) (x / 4294967296)
  simpa [fworld] using this

theorem ffits_eq (x p e : Nat) : ffits x p e = (decide (fhi (fpow x e) (1 + e) < p) || (decide (fhi (fpow x e) (1 + e) = p) && !frest (fpow x e) e)) := by
  show (decide (fhi (fpow x e) ((fpow x e).length - e) < p) || (decide (fhi (fpow x e) ((fpow x e).length - e) = p) && !frest (fpow x e) e)) = _
  rw [fpow_length, show 1 + 2 * e - e = 1 + e by omega]

set_option maxHeartbeats 4000000 in
set_option maxRecDepth 100000 in
theorem fits_calls (w : World) (x p e : Nat) (hx : x < 18446744073709551616) (he : e ≤ 10) :
    Calls Tryd.prog 23 #[.int .u64 x, .int .u64 p, .int .i64 e] w fun r w' => r = .returned (.bool (ffits x p e)) ∧ Below w.heap.size w w' := by
  obtain ⟨h1, h2, h3⟩ := fworld_is w x
  have HW0 : Hold (Below w.heap.size w (fworld w x)) := ⟨h1⟩
  have HN0 : Hold (Blk (fworld w x) w.heap.size 44 .u64 (fpow x 0)) := ⟨h2⟩
  have HF0 : Hold (Blk (fworld w x) (w.heap.size + 1) 44 .u64 [x % 4294967296, x / 4294967296]) := ⟨h3⟩
  have HR : Hold (ffits x p e = (decide (fhi (fpow x e) (1 + e) < p) || (decide (fhi (fpow x e) (1 + e) = p) && !frest (fpow x e) e))) := ⟨ffits_eq x p e⟩
  obtain ⟨R, hR⟩ : ∃ R, ffits x p e = R := ⟨_, rfl⟩
  rw [hR] at HR ⊢
  clear h1 h2 h3 hR
  unfold fworld at *
  go_enter Tryd.func23, Tryd.ntmps23
  go_wp2
  generalize hw0 : World.alloc _ _ = w0 at *
  obtain ⟨G, hG⟩ : ∃ G, w.heap.size = G := ⟨_, rfl⟩
  have HG : Hold (G = w.heap.size) := ⟨hG.symm⟩
  clear hw0
  rw [hG] at HW0 HN0 HF0
  simp only [hG]
  clear hG
  obtain ⟨F, hF⟩ : ∃ F, [x % 4294967296, x / 4294967296] = F := ⟨_, rfl⟩
  rw [hF] at HF0
  have HFl : Hold (F.length = 2 ∧ ∀ i, fpow x (i + 1) = times (fpow x i) F) := ⟨by rw [← hF]; exact ⟨rfl, fun _ => rfl⟩⟩
  clear hF
  go_loopw [7, 9] (fun nv iv w1 => ∃ i g : Nat, i ≤ e ∧ nv = .slice (some ⟨g, 0, none⟩) (1 + 2 * i) (1 + 2 * i) ∧ iv = .int .i64 i ∧ Hold (Below G w w1) ∧ Hold (Blk w1 g 44 .u64 (fpow x i)) ∧ Hold (Blk w1 (G + 1) 44 .u64 F)) (fun _ iv _ => e - (intOf iv).toNat)
  case atStart => exact ⟨0, G, by omega, rfl, rfl, HW0, HN0, HF0⟩
  case round =>
    obtain ⟨i, g, hi, rfl, rfl, HW1, HN1, HF1⟩ := hrel
    by_cases hie : i < e
    · go_wp2_with fail
      refine (times_calls _ g (G + 1) (fpow x i) F (1 + 2 * i) 2 HN1.out HF1.out (by rw [fpow_length]) HFl.out.1.symm (by omega) (by omega)).mono ?_
      rintro r w2 ⟨rfl, hn, hb⟩
      have HN2 : Hold (Blk w2 wr.heap.size 44 .u64 (fpow x (i + 1))) := ⟨by rw [HFl.out.2]; exact hn⟩
      have HF2 : Hold (Blk w2 (G + 1) 44 .u64 F) := ⟨HF1.out.below hb HF1.out.lt⟩
      have HW2 : Hold (Below G w w2) := ⟨HW1.out.trans (hb.mono (by have := HF1.out.lt; omega))⟩
      clear hn hb
      go_wp2
      go_roundw
      case rel =>
        exact ⟨i + 1, wr.heap.size, by omega, by rw [show 1 + 2 * i + 2 = 1 + 2 * (i + 1) by omega], by go_num, HW2, HN2, HF2⟩
      case measure => simp only [intOf]; omega
    · obtain rfl : i = e := by omega
      clear HFl HF1
      obtain ⟨w1, hw1⟩ : ∃ w1, w1 = wr := ⟨_, rfl⟩
      subst hw1
      go_wp2
      go_loopw [10, 11] (fun hv iv w2 => ∃ j : Nat, j ≤ 1 + i ∧ hv = .int .u64 (fhi (fpow x i) j : Nat) ∧ iv = .int .i64 (2 * (i : Int) - j) ∧ w1 = w2) (fun _ iv _ => (intOf iv + 1 - i).toNat)
      case atStart =>
        exact ⟨0, by omega, rfl, by rw [show 1 + 2 * (i : Int) - 1 = 2 * (i : Int) - (0 : Nat) by omega], rfl⟩
      case round =>
        obtain ⟨j, hj, rfl, rfl, rfl⟩ := hrel
        by_cases hji : j < 1 + i
        · have c0 := HN1.out.cell (i := 2 * i - j) (getD_cell (by rw [fpow_length]; omega))
          have hst : Hold (fhi (fpow x i) (j + 1) = (fhi (fpow x i) j * 4294967296 % 18446744073709551616 + (fpow x i).getD (2 * i - j) 0) % 18446744073709551616) := ⟨by
            show (_ % _ + (fpow x i).getD ((fpow x i).length - 1 - j) 0) % _ = _
            rw [fpow_length, show 1 + 2 * i - 1 - j = 2 * i - j by omega]⟩
          generalize (fpow x i).getD (2 * i - j) 0 = z at *
          obtain ⟨h, hh⟩ : ∃ h, fhi (fpow x i) j = h := ⟨_, rfl⟩
          rw [hh] at hst ⊢
          obtain ⟨A, hA⟩ : ∃ A, h * 4294967296 % 18446744073709551616 = A := ⟨_, rfl⟩
          rw [hA] at hst
          obtain ⟨B, hB⟩ : ∃ B, (A + z) % 18446744073709551616 = B := ⟨_, rfl⟩
          rw [hB] at hst
          have w1 : IntKind.u64.wrap ((h : Int) * 4294967296) = (A : Int) := by rw [IntKind.wrap_u64, ← hA]; simp
          have w2 : IntKind.u64.wrap ((A : Int) + z) = (B : Int) := by rw [IntKind.wrap_u64, ← hB]; simp
          have hix : (2 * (i : Int) - j).toNat = 2 * i - j := by omega
          clear hA hB hh
          go_wp2
          go_roundw
          case rel =>
            exact ⟨j + 1, by omega, by rw [hst.out], by rw [show 2 * (i : Int) - j - 1 = 2 * (i : Int) - (j + 1 : Nat) by omega], trivial⟩
          case measure => simp only [intOf]; omega
        · obtain rfl : j = 1 + i := by omega
          have hlt := fhi_lt (fpow x i) (1 + i)
          generalize fhi (fpow x i) (1 + i) = h at *
          go_wp2
          go_loopw [12, 13] (fun rv iv w2 => ∃ k : Nat, k ≤ i ∧ rv = .bool (frest (fpow x i) k) ∧ iv = .int .i64 k ∧ w1 = w2) (fun _ iv _ => i - (intOf iv).toNat)
          case atStart => exact ⟨0, by omega, rfl, rfl, rfl⟩
          case round =>
            obtain ⟨k, hk, rfl, rfl, rfl⟩ := hrel
            by_cases hki : k < i
            · have c0 := HN1.out.cell (i := k) (getD_cell (by rw [fpow_length]; omega))
              have hst : Hold (frest (fpow x i) (k + 1) = (frest (fpow x i) k || decide (0 < (fpow x i).getD k 0))) := ⟨rfl⟩
              generalize (fpow x i).getD k 0 = z at *
              generalize frest (fpow x i) k = b at *
              cases b
              · by_cases h0 : 0 < z
                · have hz : decide ((0 : Int) < (z : Int)) = true := by rw [decide_eq_true_eq]; omega
                  have hs2 : Hold (frest (fpow x i) (k + 1) = true) := ⟨by rw [hst.out]; simp [h0]⟩
                  clear hst
                  go_wp2
                  go_roundw
                  case rel => exact ⟨k + 1, by omega, by rw [hs2.out], by go_num, trivial⟩
                  case measure => simp only [intOf]; omega
                · have hz : decide ((0 : Int) < (z : Int)) = false := by rw [decide_eq_false_iff_not]; omega
                  have hs2 : Hold (frest (fpow x i) (k + 1) = false) := ⟨by rw [hst.out]; simp [h0]⟩
                  clear hst
                  go_wp2
                  go_roundw
                  case rel => exact ⟨k + 1, by omega, by rw [hs2.out], by go_num, trivial⟩
                  case measure => simp only [intOf]; omega
              · have hs2 : Hold (frest (fpow x i) (k + 1) = true) := ⟨by rw [hst.out]; simp⟩
                clear hst
                go_wp2
                go_roundw
                case rel => exact ⟨k + 1, by omega, by rw [hs2.out], by go_num, trivial⟩
                case measure => simp only [intOf]; omega
            · obtain rfl : k = i := by omega
              generalize frest (fpow x k) k = b at *
              by_cases h1 : h < p
              · have hr : R = true := by rw [HR.out]; simp [h1]
                subst hr
                go_wp2
                go_ret
                exact ⟨rfl, by rw [← HG.out]; exact HW1.out⟩
              · by_cases h2 : h = p
                · subst h2
                  cases b
                  · have hr : R = true := by rw [HR.out]; simp
                    subst hr
                    go_wp2
                    go_ret
                    exact ⟨rfl, by rw [← HG.out]; exact HW1.out⟩
                  · have hr : R = false := by rw [HR.out]; simp
                    subst hr
                    go_wp2
                    go_ret
                    exact ⟨rfl, by rw [← HG.out]; exact HW1.out⟩
                · have hr : R = false := by rw [HR.out]; simp [h1, h2]
                  subst hr
                  have h3 : ((h : Int) == p) = false := by simpa using (show ¬ (h : Int) = p by omega)
                  go_wp2
                  go_ret
                  exact ⟨rfl, by rw [← HG.out]; exact HW1.out⟩
end Go.Proofs.YtgpkkcielpogoaaDoor
