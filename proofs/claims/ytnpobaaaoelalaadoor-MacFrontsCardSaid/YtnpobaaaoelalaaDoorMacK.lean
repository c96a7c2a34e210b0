/- A key of more than 64 bytes is its sum; a tag goes over all bytes, however they are cut. -/
import Derived.Test.YtnpobaaaoelalaaDoorMacL
import Derived.Test.YtnpobaaaoelalaaDoorRowsIn
namespace Go.Proofs.YtnpobaaaoelalaaDoor
open Go Go.RowKit Go.Proofs.YtnpobaaaoelalaaDoor.Flow

/-- Few bytes each. -/
def fewB (L : List Part) : Bool := L.all fun P => decide (P.n ≤ 500)

set_option maxHeartbeats 1000000 in
theorem few_calls (w : World) (p : Option Addr) (n c : Nat) (L : List Part) (hL : PartsIn w p n c L) : Calls Tryd.prog 18 #[.slice p n c] w fun e w' => e = .returned (.bool (fewB L)) ∧ w' = w := by
  have HL : Hold (PartsIn w p n c L) := ⟨hL⟩
  have hlen : Hold (n = L.length) := ⟨hL.len⟩
  have hcap := hL.cap
  have hmax := hL.max
  clear hL
  go_enter Tryd.func18, Tryd.ntmps18
  go_wp2
  go_loopw [7] (fun i wr => ∃ k : Nat, k ≤ n ∧ i = .int .i64 k ∧ wr = w ∧ Hold (fewB (L.take k) = true)) (fun i _ => n - (intOf i).toNat)
  case atStart => exact ⟨0, by omega, rfl, rfl, ⟨rfl⟩⟩
  case round =>
    obtain ⟨k, hk, rfl, rfl, HF⟩ := hrel
    by_cases hkn : k < n
    · obtain ⟨b, off, rfl, hb, hc⟩ := HL.out.cells (by omega)
      obtain ⟨P, hP⟩ : ∃ P, L[k]? = some P := ⟨_, List.getElem?_eq_getElem (by have := hlen.out; omega)⟩
      have hck := hc k P hP
      have h1 := (HL.out.ok k P hP).row.cap
      have h2 := (HL.out.ok k P hP).row.max
      have hmem : P ∈ L := List.mem_of_getElem? hP
      have HS : Hold (fewB (L.take (k + 1)) = (fewB (L.take k) && decide (P.n ≤ 500))) := ⟨by
        unfold fewB
        rw [List.take_add_one, hP, List.all_append]
        simp⟩
      have HA : Hold (¬ P.n ≤ 500 → fewB L = false) := ⟨fun h => by
        unfold fewB
        rw [List.all_eq_false]
        exact ⟨P, hmem, by simpa using h⟩⟩
      clear hc hP hmem
      obtain ⟨pp, pn, pc, pb⟩ := P
      dsimp only at *
      by_cases h5 : pn ≤ 500
      · go_wp2
        go_roundw
        case rel => exact ⟨k + 1, by omega, by go_num, trivial, ⟨by rw [HS.out, HF.out, decide_eq_true h5]; rfl⟩⟩
        case measure => simp [intOf]; omega
      · go_wp2
        go_ret
        exact ⟨by rw [HA.out h5]; rfl, rfl⟩
    · obtain rfl : k = n := by omega
      have hf : fewB L = true := by
        have h := HF.out
        rw [List.take_of_length_le (by have := hlen.out; omega)] at h
        exact h
      go_wp2
      go_ret
      exact ⟨by rw [hf]; rfl, rfl⟩
end Go.Proofs.YtnpobaaaoelalaaDoor
