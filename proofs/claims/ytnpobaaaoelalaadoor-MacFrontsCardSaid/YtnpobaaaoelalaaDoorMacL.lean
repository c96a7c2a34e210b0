/- The chapter's example; few bytes each. -/
import Derived.Test.YtnpobaaaoelalaaDoorMacT
import Derived.Test.YtnpobaaaoelalaaDoorShaC
import Derived.Lib.SmallJoins
namespace Go.Proofs.YtnpobaaaoelalaaDoor
open Go Go.RowKit Go.Proofs.YtnpobaaaoelalaaDoor.Flow

/-- A block of bytes, marked or not, is read. -/
theorem marked_row {w : World} {g : Nat} {t : TypeId} {fr : Nat × Nat} {bs : List Nat} {n : Nat} (h : w.heap[g]? = some (.cells (bs.map fun (x : Nat) => Value.int .u8 (x : Int)).toArray t fr)) (hn : n = bs.length) (hm : n ≤ 9223372036854775807) : RowIn w .u8 (some ⟨g, 0, none⟩) n n bs :=
  ⟨hn, Nat.le_refl _, hm, fun _ => ⟨hn, Nat.le_refl _, hm, .inr ⟨g, 0, rfl, (Array.getElem?_eq_some_iff.1 h).1, fun i x hx => by
    rw [Nat.zero_add]
    unfold World.cell?
    dsimp only
    rw [h]
    simp [hx]⟩⟩⟩

/-- Two literals, marked. -/
def lit2 (w : World) : World := (w.alloc (.cells #[.int .u8 72, .int .u8 105, .int .u8 32] 5 (3, 4))).alloc (.cells #[.int .u8 84, .int .u8 104, .int .u8 101, .int .u8 114, .int .u8 101] 5 (5, 6))
theorem lit2_below (w : World) : Below w.heap.size w (lit2 w) := ((Below.refl _ _).alloc (Nat.le_refl _) _).alloc (by simp) _
theorem lit2_size (w : World) : (lit2 w).heap.size = w.heap.size + 1 + 1 := by simp [lit2]
theorem lit2_parts (w : World) : PartsIn ((lit2 w).alloc (.cells #[.slice (some ⟨w.heap.size, 0, none⟩) 3 3, .slice (some ⟨w.heap.size + 1, 0, none⟩) 5 5] 25)) (some ⟨w.heap.size + 1 + 1, 0, none⟩) 2 2
    [⟨some ⟨w.heap.size, 0, none⟩, 3, 3, [72, 105, 32]⟩, ⟨some ⟨w.heap.size + 1, 0, none⟩, 5, 5, [84, 104, 101, 114, 101]⟩] := by
  have h1 : (lit2 w).heap[w.heap.size]? = some (.cells #[.int .u8 72, .int .u8 105, .int .u8 32] 5 (3, 4)) := by
    unfold lit2
    rw [heap_alloc_old _ _ (r := w.heap.size) (by simp), heap_alloc_new]
  have h2 : (lit2 w).heap[w.heap.size + 1]? = some (.cells #[.int .u8 84, .int .u8 104, .int .u8 101, .int .u8 114, .int .u8 101] 5 (5, 6)) := by
    have := heap_alloc_new (w.alloc (.cells #[.int .u8 72, .int .u8 105, .int .u8 32] 5 (3, 4))) (.cells #[.int .u8 84, .int .u8 104, .int .u8 101, .int .u8 114, .int .u8 101] 5 (5, 6))
    rw [show (w.alloc (.cells #[.int .u8 72, .int .u8 105, .int .u8 32] 5 (3, 4))).heap.size = w.heap.size + 1 by simp] at this
    exact this
  have hp := parts2 (lit2 w) ⟨some ⟨w.heap.size, 0, none⟩, 3, 3, [72, 105, 32]⟩ ⟨some ⟨w.heap.size + 1, 0, none⟩, 5, 5, [84, 104, 101, 114, 101]⟩
    ⟨marked_row (bs := [72, 105, 32]) h1 rfl (by decide : 3 ≤ 9223372036854775807), (by decide : ∀ x ∈ [72, 105, 32], x < 256)⟩ ⟨marked_row (bs := [84, 104, 101, 114, 101]) h2 rfl (by decide : 5 ≤ 9223372036854775807), (by decide : ∀ x ∈ [84, 104, 101, 114, 101], x < 256)⟩
  rw [lit2_size] at hp
  exact hp

set_option maxHeartbeats 2000000 in
set_option maxRecDepth 100000 in
theorem lives4_calls (w : World) (hT : Tabs w) : Calls Tryd.prog 17 #[] w fun e w' => e = .returned (.bool true) ∧ Below w.heap.size w w' := by
  have hmk := fun wx => make_u8i (i := 20) 20 rfl (by omega) wx
  go_enter Tryd.func17, Tryd.ntmps17
  go_wp2
  go_loopw [7] (fun i wr => ∃ k : Nat, k ≤ 20 ∧ i = .int .i64 k ∧ w.heap.size < wr.heap.size ∧ Below w.heap.size w wr ∧ Blk wr w.heap.size 5 .u8 (List.replicate k 11 ++ List.replicate (20 - k) 0)) (fun i _ => 20 - (intOf i).toNat)
  case atStart => exact ⟨0, by omega, rfl, by simp, (Below.refl _ _).alloc (Nat.le_refl _) _, Blk.zeros w 5 .u8 20⟩
  case round =>
    obtain ⟨k, hk, rfl, hsz, hbel, hblk⟩ := hrel
    by_cases hk20 : k < 20
    · have e0 := hblk.cell (i := k) (x := 0) (by rw [List.getElem?_append_right (by simp)]; simp [List.getElem?_replicate]; omega)
      have e1 := hblk.free k
      have hset : Hold ((List.replicate k 11 ++ List.replicate (20 - k) 0).set k 11 = List.replicate (k + 1) 11 ++ List.replicate (20 - (k + 1)) 0) := ⟨by
        rw [List.set_append_right _ _ (by simp), List.length_replicate, Nat.sub_self, show 20 - k = (20 - (k + 1)) + 1 by omega, List.replicate_succ, List.set_cons_zero, List.replicate_succ', List.append_assoc]
        rfl⟩
      go_wp2
      go_roundw
      case rel =>
        refine ⟨k + 1, by omega, by go_num, by simpa using hsz, hbel.setCell (by simp) _, ?_⟩
        have h := hblk.set k 11
        rw [hset.out] at h
        exact h
      case measure => simp [intOf]; omega
    · obtain rfl : k = 20 := by omega
      have hKey : Hold (Blk wr w.heap.size 5 .u8 (List.replicate 20 11)) := ⟨by have h := hblk; rw [Nat.sub_self, List.replicate_zero, List.append_nil] at h; exact h⟩
      have hcv1 := Joins.run_convert_bytes_const_at (P := Tryd.prog) wr 25 5 #[.int .u8 72, .int .u8 105, .int .u8 32] 3 3 wr.heap.size rfl Tryd.underlying25 Tryd.underlying5
      have hcv2 := Joins.run_convert_bytes_const_at (P := Tryd.prog) (wr.alloc (.cells #[.int .u8 72, .int .u8 105, .int .u8 32] 5 (3, 4))) 25 5 #[.int .u8 84, .int .u8 104, .int .u8 101, .int .u8 114, .int .u8 101] 5 5 (wr.heap.size + 1) (by simp) Tryd.underlying25 Tryd.underlying5
      have HP : Hold _ := ⟨lit2_parts wr⟩
      have hTl := hT.below (hbel.trans ((lit2_below wr).mono hbel.size)) hT.size
      have hbl : Below (lit2 wr).heap.size (lit2 wr) ((lit2 wr).alloc (.cells #[.slice (some ⟨wr.heap.size, 0, none⟩) 3 3, .slice (some ⟨wr.heap.size + 1, 0, none⟩) 5 5] 25)) := (Below.refl _ _).alloc (Nat.le_refl _) _
      have HW : Hold (Below wr.heap.size wr ((lit2 wr).alloc (.cells #[.slice (some ⟨wr.heap.size, 0, none⟩) 3 3, .slice (some ⟨wr.heap.size + 1, 0, none⟩) 5 5] 25))) := ⟨(lit2_below wr).trans (hbl.mono (lit2_below wr).size)⟩
      have HT : Hold _ := ⟨hTl.below hbl hTl.size⟩
      have hz := hbel.size
      have hzl : wr.heap.size ≤ ((lit2 wr).alloc (.cells #[.slice (some ⟨wr.heap.size, 0, none⟩) 3 3, .slice (some ⟨wr.heap.size + 1, 0, none⟩) 5 5] 25)).heap.size := HW.out.size
      clear hTl hbl
      clear hblk
      go_wp2_with fail
      refine calls_at (w1 := (lit2 wr).alloc (.cells #[.slice (some ⟨wr.heap.size, 0, none⟩) 3 3, .slice (some ⟨wr.heap.size + 1, 0, none⟩) 5 5] 25)) (by kernel_rfl) ?_
      refine (macTag_calls _ (some ⟨w.heap.size, 0, none⟩) 20 20 (List.replicate 20 11) (some ⟨wr.heap.size + 1 + 1, 0, none⟩) 2 2 _ HT.out ((⟨by simp, by omega, by omega, fun _ => hKey.out.row (by simp) (by omega) (by omega)⟩ : RowIn wr .u8 _ 20 20 _).below HW.out) (fun x hx => by have := (List.mem_replicate.1 hx).2; omega) HP.out).mono ?_
      rintro e w5 ⟨q, rfl, hq, hb5, hk5⟩
      have hbf : Below w.heap.size w w5 := bstepS (bstepS hbel HW.out) hb5
      rw [show whole [(⟨some ⟨wr.heap.size, 0, none⟩, 3, 3, [72, 105, 32]⟩ : Part), ⟨some ⟨wr.heap.size + 1, 0, none⟩, 5, 5, [84, 104, 101, 114, 101]⟩] = [72, 105, 32, 84, 104, 101, 114, 101] from rfl] at hk5
      rw [show sha (tagged (List.replicate 20 11) [72, 105, 32, 84, 104, 101, 114, 101]) = _ from hmac_hi] at hk5
      have c0 : w5.cell? ⟨q, 0, none⟩ = some (.int .u8 176) := hk5.cell (i := 0) (x := 176) rfl
      have c31 : w5.cell? ⟨q, 31, none⟩ = some (.int .u8 247) := hk5.cell (i := 31) (x := 247) rfl
      clear hk5 hb5 HW HT HP hcv1 hcv2 hzl
      go_wp2
      go_ret
      exact ⟨rfl, hbf⟩
end Go.Proofs.YtnpobaaaoelalaaDoor
