/- A number's bytes. -/
import Derived.Test.YthpfpnialeoclaaNatJ
namespace Go.Proofs.Ythpfpnialeoclaa
open Go Go.RowKit Go.Proofs.Ythpfpnialeoclaa.Flow

/-- So many bytes, the lowest first. -/
def leOf (N n : Nat) : List Nat := (List.range n).map fun i => N / B8 i % 256
/-- So many bytes, the highest first. -/
def beOf (N n : Nat) : List Nat := (leOf N n).reverse
/-- How many bytes it needs. -/
def bsize (N : Nat) : Nat := (blen N + 7) / 8

theorem leOf_length (N n : Nat) : (leOf N n).length = n := by simp [leOf]
theorem leOf_succ (N n : Nat) : leOf N (n + 1) = leOf N n ++ [N / B8 n % 256] := by simp [leOf, List.range_succ]
theorem bsize_le {N n : Nat} : bsize N ≤ n ↔ N < B8 n := by
  rw [B8_pow, ← blen_le]; unfold bsize; omega

theorem leOf_pad {N k n : Nat} (h : N < B8 k) (hk : k ≤ n) : leOf N k ++ List.replicate (n - k) 0 = leOf N n := by
  obtain ⟨d, rfl⟩ : ∃ d, n = k + d := ⟨n - k, by omega⟩
  rw [Nat.add_sub_cancel_left]
  clear hk
  induction d with
  | zero => simp
  | succ d ih =>
    rw [List.replicate_succ', ← List.append_assoc, ih, ← Nat.add_assoc, leOf_succ]
    congr 2
    have : B8 k ≤ B8 (k + d) := B8_mono (by omega)
    rw [Nat.div_eq_of_lt (by omega)]

theorem set_reverse (l : List Nat) (k x : Nat) (hk : k < l.length) : l.reverse.set (l.length - 1 - k) x = (l.set k x).reverse := by
  apply List.ext_getElem (by simp)
  intro i h1 h2
  simp only [List.length_set, List.length_reverse] at h1
  rw [List.getElem_set, List.getElem_reverse, List.getElem_reverse, List.getElem_set]
  simp only [List.length_set]
  by_cases h : l.length - 1 - k = i
  · rw [if_pos h, if_pos (by omega)]
  · rw [if_neg h, if_neg (by omega)]

theorem byte_of_word {N q r : Nat} (hr : r < 4) : N / B32 q % 4294967296 / B8 r % 256 = N / B8 (4 * q + r) % 256 := by
  have e : (4294967296 : Nat) = B8 r * (256 * B8 (3 - r)) := by
    rw [← B8_succ, ← B8_add, show r + (3 - r + 1) = 4 by omega]; rfl
  rw [e, Nat.mod_mul_right_div_self, Nat.mod_mul_right_mod, Nat.div_div_eq_div_mul, B8_add, B8_four]

set_option maxHeartbeats 400000 in
theorem size_calls (w : World) (p : Option Addr) (n c N : Nat) (h : NatAt w p n c N) (hn : n < 1000000) (hN : blen N ≤ 1000000000) :
    Calls Try.prog 48 #[.agg #[.slice p n c]] w fun e w' => e = .returned (.int .i64 (bsize N : Nat)) ∧ Below w.heap.size w w' := by
  have hbx := Box1.mk1 w (.slice p n c) 32
  obtain ⟨k, hk⟩ : ∃ k, blen N = k := ⟨_, rfl⟩
  have HK : Hid (bsize N = (k + 7) / 8) := by rw [← hk]; rfl
  go_enter Try.func48, Try.ntmps48
  go_wp2_with fail
  refine (bits_calls _ p n c N (h.below hbx.bel) hn).mono ?_
  rintro e w1 ⟨rfl, hb1⟩
  rw [hk] at hN
  simp only [hk]
  clear hk
  go_wp2
  go_ret
  refine ⟨?_, (hbx.later hb1).bel⟩
  rw [HK.out]
  exact congrArg (fun z => Ending.returned (.int .i64 z)) (by omega)

set_option maxHeartbeats 1000000 in
/-- Where there is room: a row that is just so long. -/
theorem bytes_blk (w : World) (p : Option Addr) (n c N s : Nat) (h : NatAt w p n c N) (hn : n < 1000000) (hN : blen N ≤ 1000000000) (hs : (s : Int) ≤ 1000000) (h2 : ¬ (s : Int) < bsize N) :
    Calls Try.prog 37 #[.agg #[.slice p n c], .int .i64 s] w fun e w' => ∃ g, e = .returned (.tuple #[.slice (some ⟨g, 0, none⟩) s s, .int .i64 0]) ∧ Blk w' g 5 .u8 (beOf N s) ∧ Below w.heap.size w w' ∧ w.heap.size ≤ g := by
  have hbx := Box1.mk1 w (.slice p n c) 32
  have h1 : ¬ (s : Int) < 0 := by omega
  obtain ⟨m, hm⟩ : ∃ m, bsize N = m := ⟨_, rfl⟩
  have HM : Hid (∀ k, m ≤ k ↔ N < B8 k) := fun k => by rw [← hm]; exact bsize_le
  rw [hm] at h2
  obtain ⟨ws, r1, r2, r3, r4⟩ := h.ex
  have hmk := make_u8 s (by omega)
  have hms : m ≤ s := by omega
  have HR4 := Lib.hid r4
  go_enter Try.func37, Try.ntmps37
  go_wp2_with fail
  refine (size_calls _ p n c N (h.below hbx.bel) hn hN).mono ?_
  rintro e w1 ⟨rfl, hb1⟩
  simp only [hm]
  clear hm r4
  have hbx1 := hbx.later hb1
  have hz1 : w.heap.size < w1.heap.size := hbx1.size
  go_wp2
  go_loopw [24] (fun i wr => ∃ k : Nat, k ≤ m ∧ i = .int .i64 k ∧ Box1 w wr (.slice p n c) ∧ w1.heap.size < wr.heap.size ∧ Below w1.heap.size w1 wr ∧ Blk wr w1.heap.size 5 .u8 ((leOf N k ++ List.replicate (s - k) 0).reverse)) (fun i _ => m - (intOf i).toNat)
  case atStart =>
    refine ⟨0, by omega, rfl, hbx1.alloc _, by simp, (Below.refl _ _).alloc (Nat.le_refl _) _, ?_⟩
    have := Blk.zeros w1 5 .u8 s
    simpa [leOf] using this
  case round =>
    obtain ⟨k, hk, rfl, hbr, hsz, hbw, hblk⟩ := hrel
    have c0 := hbr.c0
    by_cases hkm : k < m
    · have hkn : k / 4 < n := by
        rcases Nat.lt_or_ge (k / 4) n with h3 | h3
        · exact h3
        · exfalso
          have h4 := r2.lt
          rw [← r1.len] at h4
          have h5 : N < B8 k := by
            have : B32 n ≤ B8 k := by rw [← B8_four]; exact B8_mono (by omega)
            have := HR4.out; omega
          have h6 := (HM.out k).2 h5
          omega
      obtain ⟨b, off, rfl, hb, hc⟩ := r1.pos (by omega)
      obtain ⟨x, hx⟩ : ∃ x, ws.getD (k / 4) 0 = x := ⟨_, rfl⟩
      have hci : wr.cell? ⟨b, off + k / 4, none⟩ = some (.int .u32 (x : Nat)) := by
        rw [(bcell hbr.bel).1 _ _ hb]
        exact hc _ x (by rw [← hx, List.getD_eq_getElem?_getD]; simp [show k / 4 < ws.length by have := r1.len; omega])
      have hx1 : x < 4294967296 := by rw [← hx]; exact r2.get _
      have hlen : (leOf N k ++ List.replicate (s - k) 0).length = s := by rw [List.length_append, leOf_length, List.length_replicate]; omega
      have hcl : wr.cell? ⟨w1.heap.size, s - 1 - k, none⟩ = some (.int .u8 (((leOf N k ++ List.replicate (s - k) 0).reverse.getD (s - 1 - k) 0 : Nat))) := hblk.cell (by
        rw [List.getD_eq_getElem?_getD]
        have : s - 1 - k < (leOf N k ++ List.replicate (s - k) 0).reverse.length := by rw [List.length_reverse, hlen]; omega
        simp only [List.getElem?_eq_getElem this, Option.getD_some])
      have hfr := hblk.free (s - 1 - k)
      have hbyte : x / 2 ^ (k % 4 * 8) % 256 = N / B8 k % 256 := by
        have hd := digit ws r2 (k / 4)
        rw [HR4.out, hx] at hd
        rw [← hd, Nat.mul_comm (k % 4) 8, ← B8_pow, byte_of_word (Nat.mod_lt _ (by omega))]
        congr 3; omega
      have hset : Hid (Blk (wr.setCell ⟨w1.heap.size, s - 1 - k, none⟩ (.int .u8 ((N / B8 k % 256 : Nat)))) w1.heap.size 5 .u8 ((leOf N (k + 1) ++ List.replicate (s - (k + 1)) 0).reverse)) := by
        have h5 := hblk.set (s - 1 - k) (N / B8 k % 256)
        have h6 := set_reverse (leOf N k ++ List.replicate (s - k) 0) k (N / B8 k % 256) (by rw [hlen]; omega)
        rw [hlen] at h6
        rw [h6] at h5
        have h7 : s - k = (s - (k + 1)) + 1 := by omega
        have h8 : (leOf N k ++ List.replicate (s - k) 0).set k (N / B8 k % 256) = leOf N (k + 1) ++ List.replicate (s - (k + 1)) 0 := by
          rw [h7, leOf_succ]
          have := set_zeros (leOf N k) (s - (k + 1)) (N / B8 k % 256)
          rw [leOf_length] at this
          exact this
        rw [h8] at h5
        exact h5
      have HX := Lib.hid hx
      have HB := Lib.hid hbyte
      have hk3 : k % 4 < 4 := Nat.mod_lt _ (by omega)
      clear hc hx hbyte hlen
      go_wp2
      go_roundw
      case rel =>
        have e : ((x : Int) / 2 ^ (k % 4 * 8) % 256) = ((N / B8 k % 256 : Nat) : Int) := by
          rw [← HB.out]; simp
        rw [e]
        exact ⟨k + 1, by omega, by go_num, hbr.below (B := w.heap.size + 1) ((Below.refl _ _).setCell (by simp; omega) _) (Nat.le_refl _), by simpa using hsz, hbw.setCell (by simp) _, hset.out⟩
      case measure => simp [intOf]; omega
    · have hkm' : m ≤ k := by omega
      rw [leOf_pad ((HM.out k).1 hkm') (by omega)] at hblk
      have HRow : Hid (Blk wr w1.heap.size 5 .u8 (beOf N s)) := hblk
      have hbel := hbr.bel
      go_wp2
      go_ret2
      exact ⟨_, rfl, HRow.out, hbel, Nat.le_of_lt hz1⟩


end Go.Proofs.Ythpfpnialeoclaa
