/- The bytes that came in. -/
import Derived.Test.YtoleblefdmdbjaaFit
import Derived.ProofKit
import Derived.OpenShut
namespace Go.Proofs.Ytoleblefdmdbjaa
open Go Go.RowKit

/-- The bytes. -/
def bytesIn (zs : List Int) (n : Nat) : List Nat := (zs.take n).map Int.toNat

theorem wf_u8 {n : Int} (h : (Lit.int .u8 n).wf = true) : 0 ≤ n ∧ n < 256 := by
  simp only [Lit.wf, Bool.and_eq_true, decide_eq_true_eq] at h
  have h1 : IntKind.u8.min = 0 := by decide
  have h2 : IntKind.u8.max = 255 := by decide
  omega

theorem wf_u64 {n : Int} (h : (Lit.int .u64 n).wf = true) : 0 ≤ n ∧ n < 18446744073709551616 := by
  simp only [Lit.wf, Bool.and_eq_true, decide_eq_true_eq] at h
  have h1 : IntKind.u64.min = 0 := by decide
  have h2 : IntKind.u64.max = 18446744073709551615 := by decide
  omega

theorem wf_i64 {n : Int} (h : (Lit.int .i64 n).wf = true) : -9223372036854775808 ≤ n ∧ n ≤ 9223372036854775807 := by
  simp only [Lit.wf, Bool.and_eq_true, decide_eq_true_eq] at h
  have h1 : IntKind.i64.min = -9223372036854775808 := by decide
  have h2 : IntKind.i64.max = 9223372036854775807 := by decide
  omega

theorem add_plain (b off i : Nat) : (⟨b, off, none⟩ : Addr).add i = ⟨b, off + i, none⟩ := by unfold Addr.add; split <;> simp_all

theorem rowIn_of {w : World} {a : Option Addr} {len cap : Nat} {zs : List Int}
    (h : (a = none ∧ len = 0 ∧ cap = 0 ∧ zs = []) ∨ ∃ x, a = some x ∧ len ≤ cap ∧ cap ≤ maxLen ∧ zs.length = cap ∧ (∀ i, i < zs.length → w.cell? (x.add i) = some (.int .u8 (zs.getD i 0))) ∧ ∀ n ∈ zs, (Lit.int .u8 n).wf = true) :
    RowIn w .u8 a len cap (bytesIn zs len) ∧ Bytes8 (bytesIn zs len) := by
  rcases h with ⟨rfl, rfl, rfl, rfl⟩ | ⟨x, rfl, hl, hm, hz, hc, hw⟩
  · refine ⟨⟨by simp [bytesIn], Nat.le_refl _, by omega, fun h => absurd h (by omega)⟩, by simp [bytesIn, Bytes8]⟩
  · have hm' : cap ≤ 9223372036854775807 := by simpa [maxLen] using hm
    have hlen : len = (bytesIn zs len).length := by simp [bytesIn]; omega
    refine ⟨⟨hlen, hl, hm', fun h0 => ?_⟩, ?_⟩
    · obtain ⟨b, off, spot⟩ := x
      have h1 := hc 0 (by omega)
      have hspot : spot = none := by simpa [Addr.add] using World.cell?_spot h1
      subst hspot
      have hadd : ∀ i, (⟨b, off, none⟩ : Addr).add i = ⟨b, off + i, none⟩ := add_plain b off
      refine ⟨hlen, hl, hm', .inr ⟨b, off, rfl, ?_, fun i y hy => ?_⟩⟩
      · rw [hadd] at h1
        unfold World.cell? at h1
        rcases Nat.lt_or_ge b w.heap.size with k | k
        · exact k
        · simp [Array.getElem?_eq_none k] at h1
      · simp only [bytesIn, List.getElem?_map, List.getElem?_take] at hy
        split at hy
        · rename_i hi
          have hi2 : i < zs.length := by omega
          rw [List.getElem?_eq_getElem hi2] at hy
          simp only [Option.map_some, Option.some.injEq] at hy
          have := wf_u8 (hw zs[i] (List.getElem_mem _))
          rw [← hadd, hc i hi2, ← hy, List.getD_eq_getElem?_getD, List.getElem?_eq_getElem hi2]
          simp only [Option.getD_some]
          rw [Int.toNat_of_nonneg this.1]
        · simp at hy
    · intro y hy
      simp only [bytesIn, List.mem_map] at hy
      obtain ⟨n, hn, rfl⟩ := hy
      have := wf_u8 (hw n (List.mem_of_mem_take hn))
      omega

theorem cellsIn_of {w : World} {a : Option Addr} {len cap : Nat} {zs : List Int}
    (h : (a = none ∧ len = 0 ∧ cap = 0 ∧ zs = []) ∨ ∃ x, a = some x ∧ len ≤ cap ∧ cap ≤ maxLen ∧ zs.length = cap ∧ (∀ i, i < zs.length → w.cell? (x.add i) = some (.int .u8 (zs.getD i 0))) ∧ ∀ n ∈ zs, (Lit.int .u8 n).wf = true) :
    (a = none → cap = 0) ∧ ∀ x, a = some x → ∀ i y, (bytesIn zs len)[i]? = some y → w.cell? (x.add i) = some (.int .u8 (y : Nat)) := by
  rcases h with ⟨rfl, rfl, rfl, rfl⟩ | ⟨x, rfl, hl, hm, hz, hc, hw⟩
  · exact ⟨fun _ => rfl, fun x hx => by cases hx⟩
  · refine ⟨(fun h => by cases h), fun x' hx i y hy => ?_⟩
    cases hx
    simp only [bytesIn, List.getElem?_map, List.getElem?_take] at hy
    split at hy
    · rename_i hi
      have hi2 : i < zs.length := by omega
      rw [List.getElem?_eq_getElem hi2] at hy
      simp only [Option.map_some, Option.some.injEq] at hy
      have := wf_u8 (hw zs[i] (List.getElem_mem _))
      rw [hc i hi2, ← hy, List.getD_eq_getElem?_getD, List.getElem?_eq_getElem hi2]
      simp only [Option.getD_some]
      rw [Int.toNat_of_nonneg this.1]
    · simp at hy

end Go.Proofs.Ytoleblefdmdbjaa
