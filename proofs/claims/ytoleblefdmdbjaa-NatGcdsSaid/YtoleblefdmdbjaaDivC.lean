/- Of long division: a product taken away; the divisor added back. -/
import Derived.Test.YtoleblefdmdbjaaDivB
namespace Go.Proofs.Ytoleblefdmdbjaa
open Go Go.RowKit Go.Proofs.Ytoleblefdmdbjaa.Flow

/-- The answer: the words that stand there now, and what is owed. -/
def GivesTake (S : List Nat) (y : Nat) (xs : List Nat) (o g : Nat) (e : TypeId) (w : World) (en : Ending) (w' : World) : Prop :=
  en = .returned (.int .u32 (y : Nat)) ∧ Blk w' g e .u32 (xs.take o ++ S ++ xs.drop (o + S.length)) ∧ w.grownBy w' (some g) ∧ w'.heap.size = w.heap.size

set_option maxHeartbeats 2000000 in
set_option maxRecDepth 100000 in
theorem subProduct_calls (w : World) (g o n c : Nat) (xs : List Nat) (q : Option Addr) (m d : Nat) (W : List Nat) (t : Nat)
    (hg : Blk w g 75 .u32 xs) (hx : Words xs) (hW : Row w .u32 q m d W) (wW : Words W) (ht : t < 4294967296) (hq : ∀ a, q = some a → a.block ≠ g) (hm : m < 1000000) (ho : o + m ≤ xs.length) (hn : m ≤ n) (hc : n ≤ c) (hc2 : c < 9223372036854) :
    Calls Try.prog 89 #[.slice (some ⟨g, o, none⟩) n c, .slice q m d, .int .u32 t] w (GivesTake (subGo W (xs.drop o) t W.length).1 (subGo W (xs.drop o) t W.length).2 xs o g 75 w) := by
  have HW := Lib.hid hW.len
  go_enter Try.func89, Try.ntmps89
  go_wp2
  go_loopw [7, 13] (fun cy i wr => ∃ k y : Nat, ∃ S, k ≤ m ∧ i = .int .i64 k ∧ cy = .int .u64 y ∧ subGo W (xs.drop o) t k = (S, y) ∧ Blk wr g 75 .u32 (xs.take o ++ S ++ xs.drop (o + k)) ∧ w.grownBy wr (some g) ∧ wr.heap.size ≤ w.heap.size) (fun _ i _ => m - (intOf i).toNat)
  case atStart => exact ⟨0, 0, [], by omega, rfl, rfl, rfl, by rw [List.append_nil, Nat.add_zero, List.take_append_drop]; exact hg, grownBy_refl _ _, Nat.le_refl _⟩
  case round =>
    obtain ⟨k, y, S, hk, rfl, rfl, hS, hblk, hgr, hsz⟩ := hrel
    have hst := subGo_st wW (hx.drop o) ht k
    rw [hS] at hst
    have hy := hst.owed
    have hsl := hst.len
    simp only at hy hsl
    have HS := Lib.hid hS
    have HSL := Lib.hid hsl
    clear hS hst hsl
    by_cases hkm : k < m
    · obtain ⟨b, off, rfl, hb, hcell⟩ := (hW.grown hgr hq).pos (by omega)
      obtain ⟨x, hxk⟩ : ∃ x, W.getD k 0 = x := ⟨_, rfl⟩
      obtain ⟨z, hz⟩ : ∃ z, xs.getD (o + k) 0 = z := ⟨_, rfl⟩
      have hci : wr.cell? ⟨b, off + k, none⟩ = some (.int .u32 (x : Nat)) := hcell k x (by rw [← hxk, List.getD_eq_getElem?_getD]; simp [show k < W.length by have := HW.out; omega])
      have hmid := fun u => Blk.mid hblk HSL.out (by omega) u
      have hcz := (hmid 0).1
      rw [hz] at hcz
      have hfz := hblk.free (o + k)
      have hx1 : x < 4294967296 := by rw [← hxk]; exact wW.get k
      have hz1 : z < 4294967296 := by rw [← hz]; exact hx.get _
      have hp := mul_bound hx1 ht
      obtain ⟨v, hv⟩ : ∃ v, x * t = v := ⟨_, rfl⟩
      have hvi : (x : Int) * t = v := by rw [← hv]; exact (Int.natCast_mul _ _).symm
      have hv9 : v ≤ 18446744065119617025 := by rw [← hv]; exact hp
      have tv : IntKind.u64.wrap ((x : Int) * t) = v := by rw [hvi]; exact IntWalk.u64_in _ (by omega)
      have HV := Lib.hid hv
      have HX := Lib.hid hxk
      have HZ := Lib.hid hz
      have HM := Lib.hid (fun u => (hmid u).2)
      have hzd : Hid ((xs.drop o).getD k 0 = z) := Lib.hid (by rw [List.getD_eq_getElem?_getD, List.getElem?_drop, ← List.getD_eq_getElem?_getD]; exact HZ.out)
      clear hcell hxk hz hmid hp hv
      by_cases hlt : z < (y + v) % 4294967296
      · go_wp2
        go_roundw
        case rel =>
          have e : (((z + 4294967296 - (y + v) % 4294967296) % 4294967296 : Nat) : Int) = ((z : Int) - (y + v)) % 4294967296 := by omega
          have h7 := HM.out ((z + 4294967296 - (y + v) % 4294967296) % 4294967296)
          rw [e] at h7
          refine ⟨k + 1, (y + v) / 4294967296 + 1, S ++ [(z + 4294967296 - (y + v) % 4294967296) % 4294967296], by omega, by go_num, by go_num, ?_, h7, grownBy_trans hgr (grownBy_setCell _ _ _ _), by simpa using hsz⟩
          rw [subGo, HS.out, HX.out, hzd.out]
          simp only [HV.out]
          rw [if_pos hlt]
        case measure => simp [intOf]; omega
      · go_wp2
        go_roundw
        case rel =>
          have e : (((z + 4294967296 - (y + v) % 4294967296) % 4294967296 : Nat) : Int) = (z : Int) - ((y : Int) + v) % 4294967296 := by omega
          have h7 := HM.out ((z + 4294967296 - (y + v) % 4294967296) % 4294967296)
          rw [e] at h7
          refine ⟨k + 1, (y + v) / 4294967296, S ++ [(z + 4294967296 - (y + v) % 4294967296) % 4294967296], by omega, by go_num, by go_num, ?_, h7, grownBy_trans hgr (grownBy_setCell _ _ _ _), by simpa using hsz⟩
          rw [subGo, HS.out, HX.out, hzd.out]
          simp only [HV.out]
          rw [if_neg hlt]
          simp only [Nat.add_zero]
        case measure => simp [intOf]; omega
    · have hkm' : m ≤ k := by omega
      have hkl : k = W.length := by have := HW.out; omega
      have HK := Lib.hid hkl
      clear hkl
      go_wp2
      go_ret
      refine ⟨?_, by rw [← HK.out, HS.out]; simp only [HSL.out]; exact hblk, hgr, Nat.le_antisymm hsz hgr.size⟩
      rw [← HK.out, HS.out]
      exact congrArg (fun z => Ending.returned (.int .u32 z)) (by omega)

set_option maxHeartbeats 2000000 in
set_option maxRecDepth 100000 in
theorem addBack_calls (w : World) (g o n c : Nat) (xs : List Nat) (q : Option Addr) (m d : Nat) (W : List Nat)
    (hg : Blk w g 75 .u32 xs) (hx : Words xs) (hW : Row w .u32 q m d W) (wW : Words W) (hq : ∀ a, q = some a → a.block ≠ g) (hm : m < 1000000) (ho : o + m ≤ xs.length) (hn : m ≤ n) :
    Calls Try.prog 90 #[.slice (some ⟨g, o, none⟩) n c, .slice q m d] w fun e w' => ∃ S y, GivesTake S y xs o g 75 w e w' ∧ SumSt (xs.drop o) W W.length S y := by
  have HW := Lib.hid hW.len
  go_enter Try.func90, Try.ntmps90
  go_wp2
  go_loopw [5, 10] (fun cy i wr => ∃ k y : Nat, ∃ S, k ≤ m ∧ i = .int .i64 k ∧ cy = .int .u32 y ∧ SumSt (xs.drop o) W k S y ∧ Blk wr g 75 .u32 (xs.take o ++ S ++ xs.drop (o + k)) ∧ w.grownBy wr (some g) ∧ wr.heap.size ≤ w.heap.size) (fun _ i _ => m - (intOf i).toNat)
  case atStart => exact ⟨0, 0, [], by omega, rfl, rfl, SumSt.start _ _, by rw [List.append_nil, Nat.add_zero, List.take_append_drop]; exact hg, grownBy_refl _ _, Nat.le_refl _⟩
  case round =>
    obtain ⟨k, y, S, hk, rfl, rfl, hst, hblk, hgr, hsz⟩ := hrel
    have hy := hst.carry
    have HSL := Lib.hid hst.len
    by_cases hkm : k < m
    · obtain ⟨b, off, rfl, hb, hcell⟩ := (hW.grown hgr hq).pos (by omega)
      obtain ⟨x, hxk⟩ : ∃ x, W.getD k 0 = x := ⟨_, rfl⟩
      obtain ⟨z, hz⟩ : ∃ z, xs.getD (o + k) 0 = z := ⟨_, rfl⟩
      have hci : wr.cell? ⟨b, off + k, none⟩ = some (.int .u32 (x : Nat)) := hcell k x (by rw [← hxk, List.getD_eq_getElem?_getD]; simp [show k < W.length by have := HW.out; omega])
      have hmid := fun u => Blk.mid hblk HSL.out (by omega) u
      have hcz := (hmid 0).1
      rw [hz] at hcz
      have hfz := hblk.free (o + k)
      have hx1 : x < 4294967296 := by rw [← hxk]; exact wW.get k
      have hz1 : z < 4294967296 := by rw [← hz]; exact hx.get _
      have hnext := hst.step (hx.drop o) wW
      have hzd : Hid ((xs.drop o).getD k 0 = z) := Lib.hid (by rw [List.getD_eq_getElem?_getD, List.getElem?_drop, ← List.getD_eq_getElem?_getD]; exact hz)
      rw [hxk, hzd.out] at hnext
      have HM := Lib.hid (fun u => (hmid u).2)
      have HN := Lib.hid hnext
      clear hcell hxk hz hmid hnext hst
      go_wp2_with fail
      refine (add32_calls z x y _ hz1 hx1 hy).mono ?_
      rintro e w1 ⟨rfl, rfl⟩
      go_wp2
      go_roundw
      case rel => exact ⟨k + 1, _, _, by omega, by go_num, rfl, HN.out, HM.out _, grownBy_trans hgr (grownBy_setCell _ _ _ _), by simpa using hsz⟩
      case measure => simp [intOf]; omega
    · have hkl : k = W.length := by have := HW.out; omega
      have HK := Lib.hid hkl
      clear hkl
      have HST := Lib.hid hst
      clear hst
      go_wp2
      go_ret
      refine ⟨S, y, ⟨rfl, by simp only [HSL.out]; exact hblk, hgr, Nat.le_antisymm hsz hgr.size⟩, ?_⟩
      rw [← HK.out]; exact HST.out

end Go.Proofs.Ytoleblefdmdbjaa
