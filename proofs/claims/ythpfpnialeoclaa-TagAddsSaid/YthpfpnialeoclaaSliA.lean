/- slices.Clone and slices.Reverse of bytes. -/
import Derived.Test.YthpfpnialeoclaaTagN
import Derived.Test.YthpfpnialeoclaaTagX
import Derived.Lib.Walk
import Derived.BigRegion
namespace Go.Proofs.Ythpfpnialeoclaa
open Go Go.RowKit

set_option maxHeartbeats 1000000 in
theorem clone8_calls (w : World) (p : Option Addr) (n c : Nat) (bs : List Nat) (h : RowIn w .u8 p n c bs) (hz : p = none → c = 0) (hn : n ≤ 1000000) :
    Calls Try.prog 23 #[.slice p n c] w fun e w' => ∃ v, e = .returned v ∧ Own w' w.heap.size v bs ∧ Below w.heap.size w w' := by
  have hne := fun w => Lib.run_eql_slice_nil (P := Try.prog) w 22 5 p n c 0 0 Try.underlying22
  cases p with
  | none =>
    obtain rfl := hz rfl
    have hc := h.cap
    obtain rfl : n = 0 := by omega
    obtain rfl : bs = [] := List.eq_nil_of_length_eq_zero h.len.symm
    go_enter Try.func23, Try.ntmps23
    go_wp2
    go_ret
    exact ⟨_, rfl, Own.nil _ _, Below.refl _ _⟩
  | some q =>
    have hb0 : Below w.heap.size w (w.alloc (.cells #[] 5)) := (Below.refl _ _).alloc (Nat.le_refl _) _
    have HO : Hold (Own (w.alloc (.cells #[] 5)) w.heap.size (.slice (some ⟨w.heap.size, 0, none⟩) 0 0) []) := ⟨Own.lit w [] (by decide)⟩
    have HR : Hold (RowIn (w.alloc (.cells #[] 5)) .u8 (some q) n c bs) := ⟨h.below hb0⟩
    have hmx : Hold (([] : List Nat).length + n ≤ 140737488355328) := ⟨by simp; omega⟩
    have hsz := hb0.size
    clear h hz
    go_enter Try.func23, Try.ntmps23
    go_wp2_with (at_builtin; refine wpList_app rfl _ _ rfl rfl HO.out rfl HR.out (fun h => nomatch h) hmx.out hsz ?_; intro v1 w1 ho1 hg1; refine Paused.out ?_)
    refine ⟨?_⟩
    rw [List.nil_append] at ho1
    have hb1 : Below w.heap.size w w1 := hb0.trans (grown_below hg1 hsz (fun b hb => by cases hb; exact Nat.le_refl _))
    have HO1 : Hold _ := ⟨ho1⟩
    have HB1 : Hold _ := ⟨hb1⟩
    clear ho1 hb1 hg1 hb0
    go_wp2
    go_ret
    exact ⟨_, rfl, HO1.out, HB1.out⟩

/-- k bytes at either end have changed places. -/
def turned (bs : List Nat) (k : Nat) : List Nat := (List.range bs.length).map fun t => if t < k ∨ bs.length ≤ t + k then bs.getD (bs.length - 1 - t) 0 else bs.getD t 0
theorem turned_length (bs : List Nat) (k : Nat) : (turned bs k).length = bs.length := by simp [turned]
theorem turned_get (bs : List Nat) (k t : Nat) : (turned bs k)[t]? = if t < bs.length then some (if t < k ∨ bs.length ≤ t + k then bs.getD (bs.length - 1 - t) 0 else bs.getD t 0) else none := by
  unfold turned
  rw [List.getElem?_map]
  by_cases h : t < bs.length
  · rw [List.getElem?_range h, if_pos h]; rfl
  · rw [List.getElem?_eq_none (by simp; omega), if_neg h]; rfl
theorem turned_zero (bs : List Nat) : turned bs 0 = bs := by
  apply List.ext_getElem?
  intro t
  rw [turned_get]
  by_cases h : t < bs.length
  · rw [if_pos h, if_neg (by omega), List.getElem?_eq_getElem h, List.getD_eq_getElem?_getD, List.getElem?_eq_getElem h]; rfl
  · rw [if_neg h, List.getElem?_eq_none (by omega)]
theorem turned_all (bs : List Nat) (k : Nat) (h : bs.length ≤ 2 * k + 1) : turned bs k = bs.reverse := by
  apply List.ext_getElem?
  intro t
  rw [turned_get]
  by_cases ht : t < bs.length
  · rw [if_pos ht, List.getElem?_reverse ht]
    have h1 : bs.length - 1 - t < bs.length := by omega
    rw [List.getElem?_eq_getElem h1]
    congr 1
    split
    · rw [List.getD_eq_getElem?_getD, List.getElem?_eq_getElem h1]; rfl
    · have e : bs.length - 1 - t = t := by omega
      rw [List.getD_eq_getElem?_getD, List.getElem?_eq_getElem ht]
      simp [e]
  · rw [if_neg ht, List.getElem?_eq_none (by simp; omega)]
theorem turned_succ (bs : List Nat) (k j : Nat) (h : k < j) (hj : j = bs.length - 1 - k) : turned bs (k + 1) = ((turned bs k).set k (bs.getD j 0)).set j (bs.getD k 0) := by
  apply List.ext_getElem?
  intro t
  rw [turned_get, List.getElem?_set, List.getElem?_set, List.length_set, turned_length, turned_get]
  by_cases h1 : j = t
  · subst h1
    rw [if_pos (by omega), if_pos rfl, if_pos (by omega), if_pos (by omega)]
    congr 2; omega
  · rw [if_neg h1]
    by_cases h2 : k = t
    · subst h2
      rw [if_pos (by omega), if_pos rfl, if_pos (by omega), if_pos (by omega)]
      congr 2; omega
    · rw [if_neg h2]
      by_cases h3 : t < bs.length
      · rw [if_pos h3, if_pos h3]
        congr 1
        by_cases h4 : t < k ∨ bs.length ≤ t + k
        · rw [if_pos (by omega), if_pos h4]
        · rw [if_neg (by omega), if_neg h4]
      · rw [if_neg h3, if_neg h3]
theorem turned_at (bs : List Nat) (k t : Nat) (h : k ≤ t) (h2 : t + k < bs.length) : (turned bs k)[t]? = some (bs.getD t 0) := by
  rw [turned_get, if_pos (by omega), if_neg (by omega)]

/-- Bytes that may be read and written over, wherever they lie. -/
structure Held (g off : Nat) (S : World → List Nat → Prop) : Prop where
  cell : ∀ {w xs i x}, S w xs → xs[i]? = some x → w.cell? ⟨g, off + i, none⟩ = some (.int .u8 (x : Nat))
  free : ∀ {w xs} (i : Nat), S w xs → w.frozen? ⟨g, off + i, none⟩ = false
  set : ∀ {w xs} (i x : Nat), S w xs → S (w.setCell ⟨g, off + i, none⟩ (.int .u8 (x : Nat))) (xs.set i x)
  drew : ∀ {w xs}, S w xs → S w.drew xs

set_option maxHeartbeats 4000000 in
set_option maxRecDepth 100000 in
theorem reverse8_gen (w : World) (g off n c : Nat) (bs : List Nat) (S : World → List Nat → Prop) (HS : Hold (Held g off S)) (h : S w bs) (hn : n = bs.length) (hm : n ≤ 1000000) :
    Calls Try.prog 24 #[.slice (some ⟨g, off, none⟩) n c] w fun e w' => (∃ v, e = .returned v) ∧ S w' bs.reverse ∧ But g w w' := by
  have HN : Hold (n = bs.length) := ⟨hn⟩
  clear hn
  have HO0 : Hold _ := ⟨h⟩
  clear h
  go_enter Try.func24, Try.ntmps24
  go_wp2
  go_loopw [2, 3] (fun iv jv wr => ∃ k : Nat, 2 * k ≤ n ∧ iv = .int .i64 k ∧ jv = .int .i64 ((n : Int) - 1 - k) ∧ Hold (S wr (turned bs k)) ∧ Hold (But g w wr)) (fun iv _ _ => n - (intOf iv).toNat)
  case atStart => exact ⟨0, by omega, rfl, by simp, ⟨by rw [turned_zero]; exact HO0.out⟩, ⟨But.refl _ _⟩⟩
  case round =>
    obtain ⟨k, hk, rfl, rfl, HO, HB⟩ := hrel
    by_cases hkj : 2 * k + 1 < n
    · obtain ⟨j, hj⟩ : ∃ j : Nat, n - 1 - k = j := ⟨_, rfl⟩
      have ej : (n : Int) - 1 - k = (j : Nat) := by omega
      rw [ej]
      obtain ⟨x, hx⟩ : ∃ x, bs.getD k 0 = x := ⟨_, rfl⟩
      obtain ⟨y, hy⟩ : ∃ y, bs.getD j 0 = y := ⟨_, rfl⟩
      have hkl : k < j := by omega
      have hkl' : (k : Int) < j := by omega
      have hjn : j < n := by omega
      have hckx := HS.out.cell HO.out (i := k) (x := x) (by rw [turned_at _ _ _ (Nat.le_refl _) (by have := HN.out; omega), hx])
      have hcjy := HS.out.cell HO.out (i := j) (x := y) (by rw [turned_at _ _ _ (by omega) (by have := HN.out; omega), hy])
      have hfk := HS.out.free k HO.out
      have hfj := HS.out.free j HO.out
      have HT : Hold (turned bs (k + 1) = ((turned bs k).set k y).set j x) := ⟨by rw [turned_succ bs k j hkl (by have := HN.out; omega), hx, hy]⟩
      have HS1 : Hold _ := ⟨HS.out.set k y HO.out⟩
      have HS2 : Hold _ := ⟨HS.out.set j x HS1.out⟩
      have HJ := Lib.hid hj
      have HEJ := Lib.hid ej
      clear hx hy hj ej
      go_wp2_with fail
      go_region
      go_wp2
      go_roundw
      case rel =>
        refine ⟨k + 1, by omega, by go_num, by have := HEJ.out; go_num, ?_, ?_⟩
        · exact ⟨by rw [HT.out]; exact HS.out.drew HS2.out⟩
        · exact ⟨((HB.out.trans (But.setCell _ _ _)).trans (But.setCell _ _ _)).drew⟩
      case measure => simp [intOf]; omega
    · have hkj' : ¬ (k : Int) < (n : Int) - 1 - k := by omega
      have HT : Hold (turned bs k = bs.reverse) := ⟨turned_all bs k (by have := HN.out; omega)⟩
      go_wp2
      go_end0
      exact ⟨⟨_, rfl⟩, by rw [← HT.out]; exact HO.out, HB.out⟩

theorem reverse8_calls (w : World) (B g n c : Nat) (bs : List Nat) (h : Own w B (.slice (some ⟨g, 0, none⟩) n c) bs) (hn : n = bs.length) (hm : n ≤ 1000000) :
    Calls Try.prog 24 #[.slice (some ⟨g, 0, none⟩) n c] w fun e w' => (∃ v, e = .returned v) ∧ Own w' B (.slice (some ⟨g, 0, none⟩) n c) bs.reverse ∧ But g w w' :=
  reverse8_gen w g 0 n c bs (fun w xs => Own w B (.slice (some ⟨g, 0, none⟩) n c) xs)
    ⟨⟨fun h hx => by rw [Nat.zero_add]; exact h.cell hx, fun i h => by rw [Nat.zero_add]; exact h.free i, fun i x h => by rw [Nat.zero_add]; exact (h.set i x).1, fun h => h.belowS (Below.refl _ _).drew⟩⟩ h hn hm

/-- The bytes behind the first ones of a block. -/
theorem reverse8_behind (w : World) (g off n c : Nat) (e : TypeId) (pre bs : List Nat) (h : Blk w g e .u8 (pre ++ bs)) (ho : off = pre.length) (hn : n = bs.length) (hm : n ≤ 1000000) :
    Calls Try.prog 24 #[.slice (some ⟨g, off, none⟩) n c] w fun e' w' => (∃ v, e' = .returned v) ∧ Blk w' g e .u8 (pre ++ bs.reverse) ∧ But g w w' := by
  subst ho
  exact reverse8_gen w g pre.length n c bs (fun w xs => Blk w g e .u8 (pre ++ xs))
    ⟨⟨fun h hx => h.cell (by rw [List.getElem?_append_right (Nat.le_add_right _ _), Nat.add_sub_cancel_left]; exact hx), fun i h => h.free _,
      fun i x h => by have := h.set (pre.length + i) x; rw [List.set_append_right _ _ (Nat.le_add_right _ _), Nat.add_sub_cancel_left] at this; exact this, fun h => h.below (Below.refl _ _).drew h.lt⟩⟩ h hn hm

end Go.Proofs.Ythpfpnialeoclaa
