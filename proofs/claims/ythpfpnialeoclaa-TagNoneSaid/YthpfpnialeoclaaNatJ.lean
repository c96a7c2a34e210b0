/- How many bits a number has. -/
import Derived.Test.YthpfpnialeoclaaNatH
import Derived.Test.YthpfpnialeoclaaNatC
import Derived.Test.YthpfpnialeoclaaNatD
import Derived.Lib.Tables
import Derived.Lib.BitFns
namespace Go.Proofs.Ythpfpnialeoclaa
open Go Go.RowKit Go.Proofs.Ythpfpnialeoclaa.Flow

set_option maxRecDepth 100000 in
theorem len8tab_lit : (⟨((([0, 1, 2, 2, 3, 3, 3, 3, 4, 4, 4, 4, 4, 4, 4, 4, 5, 5, 5, 5, 5, 5, 5, 5, 5, 5, 5, 5, 5, 5, 5, 5, 6, 6, 6, 6, 6, 6, 6, 6, 6, 6, 6, 6, 6, 6, 6, 6, 6, 6, 6, 6, 6, 6, 6, 6, 6, 6, 6, 6, 6, 6, 6, 6] : List UInt8).append [7, 7, 7, 7, 7, 7, 7, 7, 7, 7, 7, 7, 7, 7, 7, 7, 7, 7, 7, 7, 7, 7, 7, 7, 7, 7, 7, 7, 7, 7, 7, 7, 7, 7, 7, 7, 7, 7, 7, 7, 7, 7, 7, 7, 7, 7, 7, 7, 7, 7, 7, 7, 7, 7, 7, 7, 7, 7, 7, 7, 7, 7, 7, 7]).append (([8, 8, 8, 8, 8, 8, 8, 8, 8, 8, 8, 8, 8, 8, 8, 8, 8, 8, 8, 8, 8, 8, 8, 8, 8, 8, 8, 8, 8, 8, 8, 8, 8, 8, 8, 8, 8, 8, 8, 8, 8, 8, 8, 8, 8, 8, 8, 8, 8, 8, 8, 8, 8, 8, 8, 8, 8, 8, 8, 8, 8, 8, 8, 8] : List UInt8).append [8, 8, 8, 8, 8, 8, 8, 8, 8, 8, 8, 8, 8, 8, 8, 8, 8, 8, 8, 8, 8, 8, 8, 8, 8, 8, 8, 8, 8, 8, 8, 8, 8, 8, 8, 8, 8, 8, 8, 8, 8, 8, 8, 8, 8, 8, 8, 8, 8, 8, 8, 8, 8, 8, 8, 8, 8, 8, 8, 8, 8, 8, 8, 8])).toArray⟩ : ByteArray) = Lib.len8tab := by kernel_rfl





theorem len8_blen : ∀ n : Fin 256, Lib.len8 (n.val : Int) = (blen n.val : Int) := by decide +kernel

theorem tab_get (y : Int) (h0 : 0 ≤ y) (h1 : y ≤ 255) (h : y.toNat < Lib.len8tab.size) : ((Lib.len8tab[y.toNat]'h).toNat : Int) = (blen y.toNat : Nat) := by
  have e := len8_blen ⟨y.toNat, by omega⟩
  simp only [Int.toNat_of_nonneg h0] at e
  rw [← e]
  unfold Lib.len8
  rw [getElem?_pos Lib.len8tab y.toNat h]
  rfl

theorem wrap_blen (k : Nat) (m n : Nat) (hk : k ≤ 24) (hm : blen m ≤ 64) (e : blen n = k + blen m) : wrap64 ((k : Int) + wrap64 (blen m : Nat)) = (blen n : Nat) := by
  rw [e, IntWalk.wrap64_in (blen m : Nat) ⟨by omega, by omega⟩, IntWalk.wrap64_in _ ⟨by omega, by omega⟩]; omega

theorem wrap_blen0 (m : Nat) (hm : blen m ≤ 64) : wrap64 (wrap64 (blen m : Nat)) = (blen m : Nat) := by
  rw [IntWalk.wrap64_in (blen m : Nat) ⟨by omega, by omega⟩, IntWalk.wrap64_in _ ⟨by omega, by omega⟩]


set_option maxRecDepth 100000 in
set_option maxHeartbeats 1000000 in
theorem len32_int (x : Int) (w : World) (h0 : 0 ≤ x) (hx : x ≤ 4294967295) :
    Calls Try.prog 66 #[.int .u32 x] w fun e w' => e = .returned (.int .i64 (blen x.toNat : Nat)) ∧ w = w' := by
  have hs : Lib.len8tab.size = 256 := Lib.len8tab_size
  go_enter Try.func66, Try.ntmps66
  rw [len8tab_lit]
  go_wp2
  all_goals first
    | (go_ret; refine ⟨congrArg Ending.returned (congrArg (Value.int IntKind.i64) ?_), rfl⟩)
    | (exfalso; omega)
  all_goals first
    | (rw [tab_get (x / 65536 / 256) (by omega) (by omega)]; exact wrap_blen 24 _ _ (by omega) (blen_byte (by omega)) (by rw [show (x / 65536 / 256).toNat = x.toNat / 2 ^ 24 by omega]; exact blen_shift _ _ (by omega)))
    | (rw [tab_get (x / 65536) (by omega) (by omega)]; exact wrap_blen 16 _ _ (by omega) (blen_byte (by omega)) (by rw [show (x / 65536).toNat = x.toNat / 2 ^ 16 by omega]; exact blen_shift _ _ (by omega)))
    | (rw [tab_get (x / 256) (by omega) (by omega)]; exact wrap_blen 8 _ _ (by omega) (blen_byte (by omega)) (by rw [show (x / 256).toNat = x.toNat / 2 ^ 8 by omega]; exact blen_shift _ _ (by omega)))
    | (rw [tab_get x (by omega) (by omega)]; exact wrap_blen0 _ (blen_byte (by omega)))

theorem len32_calls (x : Nat) (w : World) (hx : x < 4294967296) :
    Calls Try.prog 66 #[.int .u32 x] w fun e w' => e = .returned (.int .i64 (blen x : Nat)) ∧ w = w' := by
  have := len32_int x w (by omega) (by omega)
  simpa using this

/-- A number's bits are its highest word's, and 32 for each word below. -/
theorem blen_words {ws : List Nat} {x : Nat} (hw : Words (ws ++ [x])) (hx : x ≠ 0) : blen (val (ws ++ [x])) = 32 * ws.length + blen x := by
  rw [val_snoc]
  have hb : B32 ws.length = 2 ^ (32 * ws.length) := by unfold B32; rw [show (4294967296 : Nat) = 2 ^ 32 from rfl, ← Nat.pow_mul]
  have h1 : val ws < B32 ws.length := Words.lt fun y hy => hw y (by simp [hy])
  have hd : (val ws + B32 ws.length * x) / 2 ^ (32 * ws.length) = x := by
    rw [← hb, Nat.add_mul_div_left _ _ (B32_pos _), Nat.div_eq_of_lt h1, Nat.zero_add]
  have := blen_shift (val ws + B32 ws.length * x) (32 * ws.length) (by rw [hd]; omega)
  rw [hd] at this
  exact this

set_option maxHeartbeats 1000000 in
theorem bits_calls (w : World) (p : Option Addr) (n c N : Nat) (h : NatAt w p n c N) (hn : n < 1000000) :
    Calls Try.prog 56 #[.agg #[.slice p n c]] w fun e w' => e = .returned (.int .i64 (blen N : Nat)) ∧ Below w.heap.size w w' := by
  have hbx := Box1.mk1 w (.slice p n c) 32
  by_cases h0 : n = 0
  · have hN : N = 0 := h.zero.1 h0
    subst hN
    have hd : decide (n = 0) = true := by simpa using h0
    clear h0
    go_enter Try.func56, Try.ntmps56
    go_wp2_with fail
    refine (zero_calls _ p n c).mono ?_
    rintro e w1 ⟨rfl, hb1⟩
    go_wp2
    go_ret
    exact ⟨rfl, (hbx.later hb1).bel⟩
  · obtain ⟨m, rfl⟩ : ∃ m, n = m + 1 := ⟨n - 1, by omega⟩
    obtain ⟨ws, h1, h2, h3, h4⟩ := h.ex
    have hl := h1.len
    obtain ⟨xs, x, rfl⟩ : ∃ xs x, ws = xs ++ [x] := by
      rcases List.eq_nil_or_concat ws with rfl | ⟨xs, x, h⟩
      · simp at hl
      · exact ⟨xs, x, by simpa using h⟩
    have hxm : xs.length = m := by simp at hl; omega
    have hx0 : x ≠ 0 := by simpa using h3
    have hx1 : x < 4294967296 := h2 x (by simp)
    have hbl := blen_words h2 hx0
    rw [h4, hxm] at hbl
    have HBL := Lib.hid hbl
    have hxb : blen x ≤ 32 := by rw [blen_le]; exact hx1
    obtain ⟨b, off, rfl, hb, hc⟩ := h1.pos (by omega)
    have hci : ∀ w', Below w.heap.size w w' → w'.cell? ⟨b, off + m, none⟩ = some (.int .u32 (x : Nat)) := fun w' hb' => by
      rw [(bcell hb').1 _ _ hb]
      exact hc m x (by rw [← hxm]; simp)
    have hd : decide (m + 1 = 0) = false := by simp
    clear hc hl h4 hbl hxm
    go_enter Try.func56, Try.ntmps56
    go_wp2_with fail
    refine (zero_calls _ _ (m + 1) c).mono ?_
    rintro e w1 ⟨rfl, hb1⟩
    have hbx1 := hbx.later hb1
    have c0 := hbx1.c0
    have hcx := hci w1 hbx1.bel
    clear hci
    go_wp2_with fail
    refine (len32_calls x _ hx1).mono ?_
    rintro e w2 ⟨rfl, rfl⟩
    go_wp2
    go_ret
    refine ⟨?_, hbx1.bel⟩
    rw [HBL.out]
    exact congrArg (fun z => Ending.returned (.int .i64 z)) (by omega)

end Go.Proofs.Ythpfpnialeoclaa
