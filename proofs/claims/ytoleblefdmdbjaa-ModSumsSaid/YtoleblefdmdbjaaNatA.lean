/- What the small functions of numbers do: a word, words without noughts at the end, two words' sum. -/
import Derived.Test.YtoleblefdmdbjaaBase
import Derived.Handy
namespace Go.Proofs.Ytoleblefdmdbjaa
open Go Go.RowKit

set_option maxHeartbeats 400000 in
theorem word_calls (w : World) (p : Option Addr) (n c : Nat) (ws : List Nat) (i y : Nat) (h : Row w .u32 p n c ws) (hi : i < 9223372036854775807) (hy : ws.getD i 0 = y) :
    Calls Try.prog 57 #[.agg #[.slice p n c], .int .i64 i] w fun e w' => e = .returned (.int .u32 y) ∧ Below w.heap.size w w' := by
  by_cases hin : i < n
  · obtain ⟨b, off, rfl, hb, hc⟩ := h.pos (by omega)
    have hl := h.len
    have hne : b ≠ w.heap.size := by omega
    have hci : w.cell? ⟨b, off + i, none⟩ = some (.int .u32 (y : Nat)) := hc i _ (by rw [← hy, List.getD_eq_getElem?_getD]; simp [show i < ws.length by omega])
    clear hc hl h hy
    go_enter Try.func57, Try.ntmps57
    go_wp2
    go_ret
    exact ⟨rfl, (Below.refl _ _).alloc (Nat.le_refl _) _⟩
  · have hl := h.len
    have hg : ws.getD i 0 = 0 := by rw [List.getD_eq_getElem?_getD]; simp [List.getElem?_eq_none (show ws.length ≤ i by omega)]
    obtain rfl : y = 0 := by rw [← hy, hg]
    clear hg hl h hy
    go_enter Try.func57, Try.ntmps57
    go_wp2
    go_ret
    exact ⟨rfl, (Below.refl _ _).alloc (Nat.le_refl _) _⟩

set_option maxHeartbeats 400000 in
theorem add32_calls (x y c : Nat) (w : World) (hx : x < 4294967296) (hy : y < 4294967296) (hc : c ≤ 1) :
    Calls Try.prog 61 #[.int .u32 x, .int .u32 y, .int .u32 c] w fun e w' =>
      e = .returned (.tuple #[.int .u32 ((x + y + c) % 4294967296 : Nat), .int .u32 ((x + y + c) / 4294967296 : Nat)]) ∧ w = w' := by
  go_enter Try.func61, Try.ntmps61
  go_wp2
  go_ret2
  exact ⟨by simp, rfl⟩

/-- Words without noughts at the end, in the same memory. -/
def GivesTrim (N : Nat) (p0 : Option Addr) (w : World) (e : Ending) (w' : World) : Prop := ∃ p n c, e = .returned (.agg #[.slice p n c]) ∧ NatAt w' p n c N ∧ Below w.heap.size w w' ∧ (p = none ∨ p = p0)

theorem trimmed_zero {ws : List Nat} (h : val (ws.take 0) = val ws) (p : Option Addr) (w : World) (o : Obj) : GivesTrim (val ws) p w (.returned (.agg #[.slice none 0 0])) (w.alloc o) := by
  refine ⟨none, 0, 0, rfl, ⟨[], Row.nil _ _, Words.nil, by simp, ?_⟩, (Below.refl _ _).alloc (Nat.le_refl _) _, .inl rfl⟩
  rw [← h]; rfl

theorem trimmed_some {w : World} {p : Option Addr} {n c : Nat} {ws : List Nat} (h : Row w .u32 p n c ws) (hw : Words ws) {k : Nat} (hk : k < n) (hv : val (ws.take (k + 1)) = val ws)
    (hz : ws.getD k 0 ≠ 0) (o : Obj) : GivesTrim (val ws) p w (.returned (.agg #[.slice p (k + 1) c])) (w.alloc o) := by
  have hl := h.len
  have hb : Below w.heap.size w (w.alloc o) := (Below.refl _ _).alloc (Nat.le_refl _) _
  refine ⟨p, k + 1, c, rfl, ⟨ws.take (k + 1), (h.take (k + 1) (by omega)).below hb, hw.take _, ?_, hv⟩, hb, .inr rfl⟩
  rw [take_snoc_getD _ _ (by omega), List.getLast?_append]
  simp only [List.getLast?_singleton, Option.some_or]
  intro e
  exact hz (Option.some.inj e)

set_option maxHeartbeats 400000 in
theorem trimmed_calls (w : World) (p : Option Addr) (n c : Nat) (ws : List Nat) (h : Row w .u32 p n c ws) (hw : Words ws) :
    Calls Try.prog 54 #[.slice p n c] w (GivesTrim (val ws) p w) := by
  have HL := Lib.hid h.len
  have hm := h.max
  have hcp := h.cap
  go_enter Try.func54, Try.ntmps54
  go_wp2
  go_loop [3] (fun m => ∃ k : Nat, k ≤ n ∧ m = .int .i64 k ∧ val (ws.take k) = val ws) (fun m => (intOf m).toNat)
  case atStart => exact ⟨n, Nat.le_refl _, rfl, by rw [List.take_of_length_le (by have := HL.out; omega)]⟩
  case round =>
    obtain ⟨k, hk, rfl, hv⟩ := hrel
    have HV := Lib.hid hv
    clear hv
    by_cases hk0 : k = 0
    · subst hk0
      go_wp2
      refine bodyPost_ret (v := .agg #[.slice none 0 0]) (by simp [results, Try.results54, go_sem]) rfl (trimmed_zero HV.out _ _ _)
    · obtain ⟨m, rfl⟩ : ∃ m, k = m + 1 := ⟨k - 1, by omega⟩
      obtain ⟨b, off, rfl, hb, hc⟩ := h.pos (by omega)
      have hne : b ≠ w.heap.size := by omega
      obtain ⟨x, hx⟩ : ∃ x, ws.getD m 0 = x := ⟨_, rfl⟩
      have hci : w.cell? ⟨b, off + m, none⟩ = some (.int .u32 (x : Nat)) := hc m x (by rw [← hx, List.getD_eq_getElem?_getD]; simp [show m < ws.length by have := HL.out; omega])
      have HX := Lib.hid hx
      clear hc hx
      by_cases hz : x = 0
      · subst hz
        go_wp2
        go_round
        case rel => exact ⟨m, by omega, by go_num, by rw [← HV.out, val_take_succ', HX.out]; simp⟩
        case measure => simp [intOf]
      · have hz' : ((x : Int) == 0) = false := by rw [beq_eq_false_iff_ne]; omega
        go_wp2
        refine bodyPost_ret (v := .agg #[.slice (some ⟨b, off, none⟩) (m + 1) c]) (by simp [results, Try.results54, go_sem]) rfl (trimmed_some h hw (by omega) HV.out (by rw [HX.out]; exact hz) _)
end Go.Proofs.Ytoleblefdmdbjaa
