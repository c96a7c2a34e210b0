/- The sum of parts; the sum of nothing. -/
import Derived.Test.YtcbhgfiafamflaaGreatDoorShaS
namespace Go.Proofs.YtcbhgfiafamflaaGreatDoor
open Go Go.RowKit
set_option maxRecDepth 100000

/-- A slice of bytes, and what is in it. -/
structure Part where
  p : Option Addr
  n : Nat
  c : Nat
  bs : List Nat

/-- A part that can be read. -/
structure PartOk (w : World) (P : Part) : Prop where
  row : RowIn w .u8 P.p P.n P.c P.bs
  bytes : Bytes8 P.bs

theorem PartOk.below {w w' : World} {P : Part} (h : PartOk w P) (hb : Below w.heap.size w w') : PartOk w' P := ⟨h.row.below hb, h.bytes⟩

/-- All bytes of the parts. -/
def whole (L : List Part) : List Nat := L.flatMap (·.bs)
theorem whole_snoc (L : List Part) (P : Part) : whole (L ++ [P]) = whole L ++ P.bs := by simp [whole]

/-- A slice of slices of bytes. -/
structure PartsIn (w : World) (p : Option Addr) (n c : Nat) (L : List Part) : Prop where
  len : n = L.length
  cap : n ≤ c
  max : c ≤ 9223372036854775807
  ok : ∀ (i : Nat) (P : Part), L[i]? = some P → PartOk w P
  cells : 0 < n → ∃ b off, p = some ⟨b, off, none⟩ ∧ b < w.heap.size ∧ ∀ (i : Nat) (P : Part), L[i]? = some P → w.cell? ⟨b, off + i, none⟩ = some (.slice P.p P.n P.c)

theorem PartsIn.below {w w' : World} {p : Option Addr} {n c : Nat} {L : List Part} (h : PartsIn w p n c L) (hb : Below w.heap.size w w') : PartsIn w' p n c L :=
  ⟨h.len, h.cap, h.max, fun i P hP => (h.ok i P hP).below hb, fun h0 => by
    obtain ⟨b, off, h1, h2, h3⟩ := h.cells h0
    exact ⟨b, off, h1, Nat.lt_of_lt_of_le h2 hb.size, fun i P hP => by rw [hb.cell (p := ⟨b, off + i, none⟩) h2]; exact h3 i P hP⟩⟩

theorem PartsIn.none (w : World) (p : Option Addr) : PartsIn w p 0 0 [] := ⟨rfl, Nat.le_refl _, by omega, fun i P h => by simp at h, fun h => absurd h (by omega)⟩

set_option maxHeartbeats 2000000 in
set_option maxRecDepth 100000 in
theorem sum_calls (w : World) (p : Option Addr) (n c : Nat) (L : List Part) (hT : Tabs w) (hL : PartsIn w p n c L) : Calls Tryz.prog 162 #[.slice p n c] w (GivesSum (whole L) w) := by
  have HL : Hold (PartsIn w p n c L) := ⟨hL⟩
  have hlen : Hold (n = L.length) := ⟨hL.len⟩
  have hcap := hL.cap
  have hmax := hL.max
  clear hL
  go_enter Tryz.func162, Tryz.ntmps162
  go_wp2_with fail
  refine (shanew_calls w hT).mono ?_
  rintro e w1 ⟨g, rfl, hg, hb1, hh1⟩
  go_wp2
  go_loopw [9] (fun i wr => ∃ k : Nat, k ≤ n ∧ i = .int .i64 k ∧ Below w.heap.size w wr ∧ HashAt wr g (whole (L.take k))) (fun i _ => n - (intOf i).toNat)
  case atStart => exact ⟨0, by omega, rfl, hb1, hh1⟩
  case round =>
    obtain ⟨k, hk, rfl, hbel, hash⟩ := hrel
    have hTr := hT.below hbel hT.size
    have hsz := hT.size
    by_cases hkn : k < n
    · obtain ⟨b, off, rfl, hb, hc⟩ := HL.out.cells (by omega)
      obtain ⟨P, hP⟩ : ∃ P, L[k]? = some P := ⟨_, List.getElem?_eq_getElem (by have := hlen.out; omega)⟩
      have hok := (HL.out.ok k P hP).below hbel
      have hblt : 0 < P.n → ∀ q, P.p = some q → q.block ≠ g := fun h0 q hq => by
        obtain ⟨b', off', e, h2, _⟩ := ((HL.out.ok k P hP).row.row h0).pos h0
        rw [hq] at e; cases e
        show b' ≠ g
        omega
      have hck : wr.cell? ⟨b, off + k, none⟩ = some (.slice P.p P.n P.c) := by
        rw [(bcell hbel).1 _ _ hb]; exact hc k P hP
      have htk : Hold (whole (L.take (k + 1)) = whole (L.take k) ++ P.bs) := ⟨by rw [List.take_add_one, hP]; exact whole_snoc _ _⟩
      have HOK : Hold (PartOk wr P) := ⟨hok⟩
      have HNE : Hold (0 < P.n → ∀ q, P.p = some q → q.block ≠ g) := ⟨hblt⟩
      clear hc hP hok hblt
      obtain ⟨pp, pn, pc, pb⟩ := P
      dsimp only at *
      go_wp2_with fail
      refine (shaadd_calls wr g _ pp pn pc pb hTr hash (by omega) HOK.out.row HOK.out.bytes HNE.out).mono ?_
      rintro e w2 ⟨rfl, hb2, hh2⟩
      rw [← htk.out] at hh2
      have hz : w.heap.size ≤ wr.heap.size := hbel.size
      have hbel2 := hbel.trans (hb2.below hg hz)
      go_wp2
      go_roundw
      case rel => exact ⟨k + 1, by omega, by go_num, hbel2, hh2⟩
      case measure => simp [intOf]; omega
    · obtain rfl : k = n := by omega
      rw [List.take_of_length_le (by have := hlen.out; omega)] at hash
      have hz : w.heap.size ≤ wr.heap.size := hbel.size
      go_wp2_with fail
      refine (hsum_calls wr g _ hTr hash).mono ?_
      rintro e w3 ⟨q, rfl, hq, hb3, hk3⟩
      go_wp2
      go_ret
      exact ⟨q, rfl, by omega, hbel.trans (hb3.mono hz), hk3⟩

end Go.Proofs.YtcbhgfiafamflaaGreatDoor
