/- What the small functions of numbers do: a word, words without noughts at the end, two words' sum. -/
import Derived.Test.YthpfpnialeoclaaGen
import Derived.Handy
/-! What a number is in memory. -/
namespace Go.Proofs.Ythpfpnialeoclaa
open Go Go.RowKit

theorem Try.info_u32 : (Try.prog.info? 67).map (fun i => (i.zero, i.size, i.bytes)) = some (some (.int .u32 0), 1, 4) := by kernel_rfl

/-- make([]uint32, n) -/
theorem make_u32 (n : Nat) (h : n ≤ 4294967296) (w : World) : (Instr.makeSlice 30 (.int .i64 n) (.int .i64 n)).run Try.prog w =
    .ok (.slice (some ⟨w.heap.size, 0, none⟩) n n) (w.alloc (.cells (zeros .u32 n) 67)) := by
  obtain ⟨i, hi, hz, hs, hb⟩ := info_parts Try.info_u32
  have := run_make (P := Try.prog) w 30 67 i (.int .u32 0) Try.underlying30 hi hz .i64 .i64 n n (by omega) (Int.le_refl _) (by rw [hb]; omega) (by omega)
  simp only [Int.toNat_natCast, hs, Nat.mul_one] at this
  rw [this, ← zeros_eq]
  rfl

theorem make_u32i {i : Int} (n : Nat) (hi : i = (n : Nat)) (h : n ≤ 4294967296) (w : World) : (Instr.makeSlice 30 (.int .i64 i) (.int .i64 i)).run Try.prog w =
    .ok (.slice (some ⟨w.heap.size, 0, none⟩) n n) (w.alloc (.cells (zeros .u32 n) 67)) := by subst hi; exact make_u32 n h w

/-- A number: what a slice of words says, the last one not 0. -/
structure NatAt (w : World) (p : Option Addr) (n c : Nat) (N : Nat) : Prop where
  ex : ∃ ws, Row w .u32 p n c ws ∧ Words ws ∧ ws.getLast? ≠ some 0 ∧ val ws = N

theorem NatAt.below {w w' : World} {p : Option Addr} {n c N : Nat} (h : NatAt w p n c N) (hb : Below w.heap.size w w') : NatAt w' p n c N :=
  let ⟨ws, h1, h2, h3, h4⟩ := h.ex
  ⟨ws, h1.below hb, h2, h3, h4⟩

theorem NatAt.setCell {w : World} {p : Option Addr} {n c N : Nat} (h : NatAt w p n c N) {a : Addr} (ha : ∀ q, p = some q → q.block ≠ a.block) (u : Value) : NatAt (w.setCell a u) p n c N :=
  let ⟨ws, h1, h2, h3, h4⟩ := h.ex
  ⟨ws, h1.setCell ha u, h2, h3, h4⟩

/-- A number as an answer, in new memory. -/
def GivesNat (N : Nat) (w : World) (e : Ending) (w' : World) : Prop := ∃ p n c, e = .returned (.agg #[.slice p n c]) ∧ NatAt w' p n c N ∧ Below w.heap.size w w' ∧ New w.heap.size p

end Go.Proofs.Ythpfpnialeoclaa

namespace Go.Proofs.Ythpfpnialeoclaa
open Go Go.RowKit

set_option maxHeartbeats 400000 in
theorem word_calls (w : World) (p : Option Addr) (n c : Nat) (ws : List Nat) (i y : Nat) (h : Row w .u32 p n c ws) (hi : i < 9223372036854775807) (hy : ws.getD i 0 = y) :
    Calls Try.prog 35 #[.agg #[.slice p n c], .int .i64 i] w fun e w' => e = .returned (.int .u32 y) ∧ Below w.heap.size w w' := by
  by_cases hin : i < n
  · obtain ⟨b, off, rfl, hb, hc⟩ := h.pos (by omega)
    have hl := h.len
    have hne : b ≠ w.heap.size := by omega
    have hci : w.cell? ⟨b, off + i, none⟩ = some (.int .u32 (y : Nat)) := hc i _ (by rw [← hy, List.getD_eq_getElem?_getD]; simp [show i < ws.length by omega])
    clear hc hl h hy
    go_enter Try.func35, Try.ntmps35
    go_wp2
    go_ret
    exact ⟨rfl, (Below.refl _ _).alloc (Nat.le_refl _) _⟩
  · have hl := h.len
    have hg : ws.getD i 0 = 0 := by rw [List.getD_eq_getElem?_getD]; simp [List.getElem?_eq_none (show ws.length ≤ i by omega)]
    obtain rfl : y = 0 := by rw [← hy, hg]
    clear hg hl h hy
    go_enter Try.func35, Try.ntmps35
    go_wp2
    go_ret
    exact ⟨rfl, (Below.refl _ _).alloc (Nat.le_refl _) _⟩

set_option maxHeartbeats 400000 in
theorem add32_calls (x y c : Nat) (w : World) (hx : x < 4294967296) (hy : y < 4294967296) (hc : c ≤ 1) :
    Calls Try.prog 34 #[.int .u32 x, .int .u32 y, .int .u32 c] w fun e w' =>
      e = .returned (.tuple #[.int .u32 ((x + y + c) % 4294967296 : Nat), .int .u32 ((x + y + c) / 4294967296 : Nat)]) ∧ w = w' := by
  go_enter Try.func34, Try.ntmps34
  go_wp2
  go_ret2
  exact ⟨by simp, rfl⟩

/-- Words without noughts at the end, in the same memory. -/
def GivesTrim (N : Nat) (p0 : Option Addr) (w : World) (e : Ending) (w' : World) : Prop := ∃ p n c, e = .returned (.agg #[.slice p n c]) ∧ NatAt w' p n c N ∧ Below w.heap.size w w' ∧ (p = none ∨ p = p0)

theorem trimmed_zero {ws : List Nat} (h : val (ws.take 0) = val ws) (p : Option Addr) (w : World) (o : Obj) : GivesTrim (val ws) p w (.returned (.agg #[.slice none 0 0])) (w.alloc o) := by
  refine ⟨none, 0, 0, rfl, ⟨[], Row.nil _ _, Words.nil, by simp, ?_⟩, (Below.refl _ _).alloc (Nat.le_refl _) _, .inl rfl⟩
  rw [← h]; rfl

theorem trimmed_some {w : World} {p : Option Addr} {n c : Nat} {ws : List Nat} (h : Row w .u32 p n c ws) (hw : Words ws) {k : Nat} (hk : k < n) (hv : val (ws.take (k + 1)) = val ws)
    (hz : ws.getD k 0 ≠ 0) (o : Obj) : GivesTrim (val ws) p w (.returned (.agg #[.slice p (k + 1) c])) (w.alloc o) := by
  have hl := h.len
  have hb : Below w.heap.size w (w.alloc o) := (Below.refl _ _).alloc (Nat.le_refl _) _
  refine ⟨p, k + 1, c, rfl, ⟨ws.take (k + 1), (h.take (k + 1) (by omega)).below hb, hw.take _, ?_, hv⟩, hb, .inr rfl⟩
  rw [take_snoc_getD _ _ (by omega), List.getLast?_append]
  simp only [List.getLast?_singleton, Option.some_or]
  intro e
  exact hz (Option.some.inj e)

set_option maxHeartbeats 400000 in
theorem trimmed_calls (w : World) (p : Option Addr) (n c : Nat) (ws : List Nat) (h : Row w .u32 p n c ws) (hw : Words ws) :
    Calls Try.prog 36 #[.slice p n c] w (GivesTrim (val ws) p w) := by
  have HL := Lib.hid h.len
  have hm := h.max
  have hcp := h.cap
  go_enter Try.func36, Try.ntmps36
  go_wp2
  go_loop [3] (fun m => ∃ k : Nat, k ≤ n ∧ m = .int .i64 k ∧ val (ws.take k) = val ws) (fun m => (intOf m).toNat)
  case atStart => exact ⟨n, Nat.le_refl _, rfl, by rw [List.take_of_length_le (by have := HL.out; omega)]⟩
  case round =>
    obtain ⟨k, hk, rfl, hv⟩ := hrel
    have HV := Lib.hid hv
    clear hv
    by_cases hk0 : k = 0
    · subst hk0
      go_wp2
      refine bodyPost_ret (v := .agg #[.slice none 0 0]) (by simp [results, Try.results36, go_sem]) rfl (trimmed_zero HV.out _ _ _)
    · obtain ⟨m, rfl⟩ : ∃ m, k = m + 1 := ⟨k - 1, by omega⟩
      obtain ⟨b, off, rfl, hb, hc⟩ := h.pos (by omega)
      have hne : b ≠ w.heap.size := by omega
      obtain ⟨x, hx⟩ : ∃ x, ws.getD m 0 = x := ⟨_, rfl⟩
      have hci : w.cell? ⟨b, off + m, none⟩ = some (.int .u32 (x : Nat)) := hc m x (by rw [← hx, List.getD_eq_getElem?_getD]; simp [show m < ws.length by have := HL.out; omega])
      have HX := Lib.hid hx
      clear hc hx
      by_cases hz : x = 0
      · subst hz
        go_wp2
        go_round
        case rel => exact ⟨m, by omega, by go_num, by rw [← HV.out, val_take_succ', HX.out]; simp⟩
        case measure => simp [intOf]
      · have hz' : ((x : Int) == 0) = false := by rw [beq_eq_false_iff_ne]; omega
        go_wp2
        refine bodyPost_ret (v := .agg #[.slice (some ⟨b, off, none⟩) (m + 1) c]) (by simp [results, Try.results36, go_sem]) rfl (trimmed_some h hw (by omega) HV.out (by rw [HX.out]; exact hz) _)
end Go.Proofs.Ythpfpnialeoclaa
