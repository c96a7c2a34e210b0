/- A number of at most 48 bytes. -/
import Derived.Test.YtoleblefdmdbjaaNatQ
import Derived.Test.YtoleblefdmdbjaaNatI
namespace Go.Proofs.Ytoleblefdmdbjaa
open Go Go.RowKit Go.Proofs.Ytoleblefdmdbjaa.Flow

set_option maxHeartbeats 1000000 in
theorem num_calls (w : World) (p : Option Addr) (n c : Nat) (bs : List Nat) (h : RowIn w .u8 p n c bs) (hb8 : Bytes8 bs) :
    Calls Try.prog 21 #[.slice p n c] w (GivesNat (be (bs.take 48)) w) := by
  have hbx := Box1.mk1 w (.slice none 0 0) 26
  have hcap := h.cap
  have hmax := h.max
  have hl := h.len
  by_cases hn8 : 48 < n
  · have hrow := h.take 48 (Nat.le_of_lt hn8)
    clear hl
    go_enter Try.func21, Try.ntmps21
    go_wp2_with fail
    refine (fromBytes_calls _ p 48 c (bs.take 48) (hrow.below hbx.bel) (hb8.take 48) (by omega)).mono ?_
    rintro e w1 ⟨q, l, d, rfl, hn, hb1, hq⟩
    have hbx1 := hbx.later hb1
    have hz1 := hbx1.size
    have hbx2 := hbx1.alloc (.cells #[.slice q l d] 26)
    have c0 := hbx2.c0
    have f0 := hbx2.f0
    have hqn : New (w.heap.size + 1) q := by simpa using hq
    clear hn8
    go_wp2
    refine bodyPost_ret (v := .agg #[.slice q l d]) (by simp [results, Try.results21, go_sem, c0]) rfl ⟨q, l, d, rfl, ?_, ?_, hqn.mono (by omega)⟩
    · exact (hn.below ((Below.refl _ _).alloc (Nat.le_refl _) _)).setCell (a := ⟨w.heap.size, 0, none⟩) (hqn.ne (show w.heap.size < w.heap.size + 1 by omega)) _
    · exact (hbx1.bel.alloc (by omega) _).setCell (Nat.le_refl _) _
  · have hrow : RowIn w .u8 p n c (bs.take 48) := by
      rw [List.take_of_length_le (by omega)]; exact h
    clear hl
    go_enter Try.func21, Try.ntmps21
    go_wp2_with fail
    refine (fromBytes_calls _ p n c (bs.take 48) (hrow.below hbx.bel) (hb8.take 48) (by omega)).mono ?_
    rintro e w1 ⟨q, l, d, rfl, hn, hb1, hq⟩
    have hbx1 := hbx.later hb1
    have hz1 := hbx1.size
    have hbx2 := hbx1.alloc (.cells #[.slice q l d] 26)
    have c0 := hbx2.c0
    have f0 := hbx2.f0
    have hqn : New (w.heap.size + 1) q := by simpa using hq
    clear hn8
    go_wp2
    refine bodyPost_ret (v := .agg #[.slice q l d]) (by simp [results, Try.results21, go_sem, c0]) rfl ⟨q, l, d, rfl, ?_, ?_, hqn.mono (by omega)⟩
    · exact (hn.below ((Below.refl _ _).alloc (Nat.le_refl _) _)).setCell (a := ⟨w.heap.size, 0, none⟩) (hqn.ne (show w.heap.size < w.heap.size + 1 by omega)) _
    · exact (hbx1.bel.alloc (by omega) _).setCell (Nat.le_refl _) _

end Go.Proofs.Ytoleblefdmdbjaa
