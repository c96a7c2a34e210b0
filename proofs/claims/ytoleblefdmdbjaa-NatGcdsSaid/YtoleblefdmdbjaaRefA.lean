/- The document's products. -/
import Derived.Test.YtoleblefdmdbjaaNatX
namespace Go.Proofs.Ytoleblefdmdbjaa
open Go Go.RowKit Go.Proofs.Ytoleblefdmdbjaa.Flow

/-- A block of truths of the call's own. -/
def BBlk (w : World) (g : Nat) (xs : List Bool) : Prop := w.heap[g]? = some (.cells (xs.map Value.bool).toArray 4 (0, 0))
theorem BBlk.lt {w : World} {g : Nat} {xs : List Bool} (h : BBlk w g xs) : g < w.heap.size := (Array.getElem?_eq_some_iff.1 h).1
theorem BBlk.cell {w : World} {g : Nat} {xs : List Bool} (h : BBlk w g xs) {i : Nat} {x : Bool} (hx : xs[i]? = some x) : w.cell? ⟨g, i, none⟩ = some (.bool x) := by
  unfold BBlk at h
  simp [World.cell?, h, hx]
theorem BBlk.free {w : World} {g : Nat} {xs : List Bool} (h : BBlk w g xs) (i : Nat) : w.frozen? ⟨g, i, none⟩ = false := by
  unfold BBlk at h
  simp [World.frozen?, h]
theorem BBlk.below {w w' : World} {g : Nat} {xs : List Bool} (h : BBlk w g xs) {B : Nat} (hb : Below B w w') (hg : g < B) : BBlk w' g xs := by
  unfold BBlk at *
  rw [hb.block g hg]; exact h
theorem BBlk.set {w : World} {g : Nat} {xs : List Bool} (h : BBlk w g xs) (i : Nat) (x : Bool) : BBlk (w.setCell ⟨g, i, none⟩ (.bool x)) g (xs.set i x) := by
  unfold BBlk at *
  simp only [World.setCell, Array.getElem?_modify, if_true, h, Option.map_some]
  simp [List.map_set]
theorem BBlk.row {w : World} {g : Nat} {xs : List Bool} (h : BBlk w g xs) {n c : Nat} (hn : n = xs.length) (hc : n ≤ c) (hm : c ≤ 9223372036854775807) : BRow w (some ⟨g, 0, none⟩) n c xs :=
  ⟨hn, hc, hm, .inr ⟨g, 0, rfl, h.lt, fun i x hx => by rw [Nat.zero_add]; exact h.cell hx⟩⟩
theorem BBlk.owns {w : World} {g : Nat} {xs : List Bool} {n B : Nat} (h : BBlk w g xs) (hn : xs.length = n) (hB : B ≤ g) (hm : n ≤ maxLen) : w.ownsRow B 4 1 (.slice (some ⟨g, 0, none⟩) n n) n (xs.map Value.bool) :=
  ⟨by simp [hn], .inr ⟨g, n, _, rfl, hB, h, Nat.le_refl _, hm, by simp [hn], by simp only [Nat.mul_one]; exact List.take_of_length_le (by simp [hn])⟩⟩

def bzeros (n : Nat) : Array Value := ((List.replicate n false).map Value.bool).toArray
theorem bzeros_eq (n : Nat) : madeCells #[Value.bool false] n = bzeros n := by
  unfold bzeros
  rw [List.map_replicate]
  have h := toList_madeCells_one (Value.bool false) n
  rw [← Array.toArray_toList (xs := madeCells #[Value.bool false] n), h]
theorem BBlk.zeros (w : World) (n : Nat) : BBlk (w.alloc (.cells (bzeros n) 4)) w.heap.size (List.replicate n false) := heap_alloc_new w _

/-- make(N, n) -/
theorem make_bits (n : Nat) (h : n ≤ 4294967296) (w : World) : (Instr.makeSlice 31 (.int .i64 n) (.int .i64 n)).run Try.prog w =
    .ok (.slice (some ⟨w.heap.size, 0, none⟩) n n) (w.alloc (.cells (bzeros n) 4)) := by
  obtain ⟨i, hi, hz, hs, hb⟩ := info_parts Try.info_bool
  have := run_make (P := Try.prog) w 31 4 i (.bool false) Try.underlying31 hi hz .i64 .i64 n n (by omega) (Int.le_refl _) (by rw [hb]; omega) (by omega)
  simp only [Int.toNat_natCast, hs, Nat.mul_one] at this
  rw [this, ← bzeros_eq]
  rfl

theorem blen_mono {a b : Nat} (h : a ≤ b) : blen a ≤ blen b := (blen_le a _).2 (Nat.lt_of_le_of_lt h (blen_lt b))
theorem blen_mul_le (a b : Nat) : blen (a * b) ≤ blen a + blen b := by
  refine (blen_le _ _).2 ?_
  rw [Nat.pow_add]
  exact Nat.mul_lt_mul'' (blen_lt a) (blen_lt b)

theorem blen_mul_pow {N i : Nat} (h : 0 < N) : blen (N * 2 ^ i) = blen N + i := by
  have hp : 0 < 2 ^ i := Nat.pow_pos (by omega)
  have e := blen_shift (N * 2 ^ i) i (by rw [Nat.mul_div_cancel _ hp]; exact h)
  rw [Nat.mul_div_cancel _ hp] at e
  omega

theorem bits_shift {N i : Nat} (h : 0 < N) : List.replicate i false ++ bitsOf N = bitsOf (N * 2 ^ i) := by
  apply List.ext_getElem?
  intro j
  rcases Nat.lt_or_ge j i with h1 | h1
  · rw [List.getElem?_append_left (by simpa using h1), bitsOf_get (by rw [blen_mul_pow h]; omega)]
    rw [bit_testBit, Nat.testBit_mul_two_pow, List.getElem?_replicate, if_pos h1, decide_eq_false (by omega), Bool.false_and]
  · rw [List.getElem?_append_right (by simpa using h1), List.length_replicate]
    rcases Nat.lt_or_ge j (blen N + i) with h2 | h2
    · rw [bitsOf_get (by omega), bitsOf_get (by rw [blen_mul_pow h]; omega), bit_testBit, bit_testBit, Nat.testBit_mul_two_pow]
      simp [h1]
    · rw [List.getElem?_eq_none (by rw [bitsOf_length]; omega), List.getElem?_eq_none (by rw [bitsOf_length, blen_mul_pow h]; omega)]

theorem bits_nil' (w : World) (g : Nat) (hb : g < w.heap.size) : BitsAt w (some ⟨g, 0, none⟩) 0 0 0 :=
  ⟨rfl, Nat.le_refl _, by omega, .inr ⟨g, 0, rfl, hb, fun i x hx => by cases hx⟩⟩

set_option maxHeartbeats 1000000 in
set_option maxRecDepth 100000 in
theorem shift_calls (w : World) (p : Option Addr) (n c N i : Nat) (h : BitsAt w p n c N) (hn : n ≤ 1000000) (hi : i ≤ 1000000) :
    Calls Try.prog 63 #[.slice p n c, .int .i64 i] w (GivesBits (N * 2 ^ i) w) := by
  have hl : n = blen N := by have := h.len; rwa [bitsOf_length] at this
  have HN := Lib.hid hl
  clear hl
  by_cases h0 : n = 0
  · subst h0
    have hz : N = 0 := by
      rcases Nat.eq_zero_or_pos N with h1 | h1
      · exact h1
      · have := blen_pos h1; have := HN.out; omega
    have HZ : Hid (N * 2 ^ i = 0) := Lib.hid (by rw [hz, Nat.zero_mul])
    clear hz
    go_enter Try.func63, Try.ntmps63
    go_wp2
    go_ret
    refine ⟨some ⟨w.heap.size, 0, none⟩, 0, 0, rfl, ?_, (Below.refl _ _).alloc (Nat.le_refl _) _, fun q hq => by cases hq; exact Nat.le_refl _⟩
    rw [HZ.out]
    exact bits_nil' _ _ (by simp)
  · obtain ⟨b, off, rfl, hb, hc⟩ := h.pos (by omega)
    have hN : 0 < N := by
      rcases Nat.eq_zero_or_pos N with h1 | h1
      · have := HN.out; rw [h1, blen_zero] at this; omega
      · exact h1
    have HS := Lib.hid (bits_shift (i := i) hN)
    have hn0 : ((n : Int) == 0) = false := by rw [beq_eq_false_iff_ne]; omega
    obtain ⟨i0, hi', hz0, hz1, hz2⟩ := info_parts Try.info_bool
    have hmk := make_bits i (by omega)
    have HC := Lib.hid hc
    have hown := (BBlk.zeros w i).owns (n := i) (B := w.heap.size) (by simp) (Nat.le_refl _) (by unfold maxLen; omega)
    clear hc hN h0
    go_enter Try.func63, Try.ntmps63
    go_wp2_with (at_builtin; refine wpList_append_own _ rfl _ _ 31 rfl w.heap.size 4 i0 (.bool false) 1 1 Try.underlying31 hi' hz0 hz1 hz2 rfl (by decide) _ _ _ rfl hown ⟨b, off, none⟩ n c ((bitsOf N).map Value.bool) rfl ?c1 ?c2 ?c3 ?c4 ?c5 ?c6 ?_)
    case c1 => simp [bitsOf_length]; exact HN.out.symm
    case c2 =>
      intro j u hu
      rw [List.getElem?_map] at hu
      cases hx : (bitsOf N)[j]? with
      | none => rw [hx] at hu; cases hu
      | some x =>
        rw [hx] at hu; cases hu
        have e : (⟨b, off, none⟩ : Addr).add j = ⟨b, off + j, none⟩ := by unfold Addr.add; split <;> simp_all
        rw [e, World.cell?_alloc_past (hn := hb)]
        exact HC.out j x hx
    case c3 => intro u hu; simp only [List.mem_map] at hu; obtain ⟨x, _, rfl⟩ := hu; rfl
    case c4 => unfold maxLen; omega
    case c5 => omega
    case c6 => simp
    intro v1 w1 ho1 hg1 _
    replace ho1 : w1.ownsRow w.heap.size 4 1 v1 (i + n) ((bitsOf (N * 2 ^ i)).map Value.bool) := by
      rw [← HS.out, List.map_append]; simpa using ho1
    obtain ⟨q, d, rfl, hrow, hnew⟩ := BRow.of_owns ho1
    have hb1 : Below w.heap.size w w1 := ((Below.refl _ w).alloc (Nat.le_refl _) _).grown hg1 (by simp) (fun k e => by simp [Value.ownBlock] at e; omega)
    go_wp2
    go_ret
    exact ⟨q, _, d, rfl, hrow, hb1, hnew⟩

theorem mod_succ_bit {N M k : Nat} (h : bit M k = true) : N * (M % 2 ^ (k + 1)) = N * (M % 2 ^ k) + N * 2 ^ k := by
  rw [mod_bit, h, if_pos rfl, Nat.mul_add]
theorem mod_succ_nobit {N M k : Nat} (h : bit M k = false) : N * (M % 2 ^ (k + 1)) = N * (M % 2 ^ k) := by
  rw [mod_bit, h]; simp

set_option maxHeartbeats 1000000 in
set_option maxRecDepth 100000 in
theorem rmul_calls (w : World) (p : Option Addr) (n c N : Nat) (q : Option Addr) (m d M : Nat) (hA : BitsAt w p n c N) (hB : BitsAt w q m d M) (hn : n ≤ 100000) (hm : m ≤ 100000) :
    Calls Try.prog 31 #[.slice p n c, .slice q m d] w (GivesBits (N * M) w) := by
  have hl : n = blen N := by have := hA.len; rwa [bitsOf_length] at this
  have hk : m = blen M := by have := hB.len; rwa [bitsOf_length] at this
  have HN := Lib.hid hl
  have HM := Lib.hid hk
  clear hl hk
  go_enter Try.func31, Try.ntmps31
  go_wp2
  go_loopw [5, 11] (fun v i wr => ∃ (k : Nat) (r : Option Addr) (l e : Nat), k ≤ m ∧ i = .int .i64 k ∧ v = .slice r l e ∧ BitsAt wr r l e (N * (M % 2 ^ k)) ∧ New w.heap.size r ∧ Below w.heap.size w wr) (fun _ i _ => m - (intOf i).toNat)
  case atStart =>
    refine ⟨0, some ⟨w.heap.size, 0, none⟩, 0, 0, by omega, rfl, rfl, ?_, fun q hq => by cases hq; exact Nat.le_refl _, (Below.refl _ _).alloc (Nat.le_refl _) _⟩
    rw [Nat.pow_zero, Nat.mod_one, Nat.mul_zero]
    exact bits_nil' _ _ (by simp)
  case round =>
    obtain ⟨k, r, l, e, hk, rfl, rfl, hv, hnew, hbw⟩ := hrel
    by_cases hkm : k < m
    · obtain ⟨b, off, rfl, hb, hc⟩ := hB.pos (by omega)
      obtain ⟨x, hx⟩ : ∃ x, bit M k = x := ⟨_, rfl⟩
      have hcx : wr.cell? ⟨b, off + k, none⟩ = some (.bool x) := by
        rw [(bcell hbw).1 _ _ hb]; exact hc k x (by rw [bitsOf_get (by rw [← HM.out]; exact hkm), hx])
      have hlim : blen (N * (M % 2 ^ k)) ≤ 200000 := by
        have h1 := blen_mul_le N (M % 2 ^ k)
        have h2 := blen_mono (Nat.mod_le M (2 ^ k))
        rw [← HN.out] at h1
        rw [← HM.out] at h2
        omega
      have hll : l ≤ 200000 := by have := hv.len; rw [bitsOf_length] at this; omega
      have HX := Lib.hid hx
      have HV := Lib.hid hv
      clear hc hx hlim hv
      cases x with
      | true =>
        go_wp2_with fail
        refine (shift_calls wr p n c N k (hA.below hbw) (by omega) (by omega)).mono ?_
        rintro en w1 ⟨r1, l1, e1, rfl, hs1, hb1, _⟩
        have hl1 : l1 ≤ 200000 := by
          have := hs1.len
          rw [bitsOf_length] at this
          rcases Nat.eq_zero_or_pos N with h0 | h0
          · rw [h0, Nat.zero_mul, blen_zero] at this; omega
          · rw [blen_mul_pow h0, ← HN.out] at this; omega
        go_wp2_with fail
        refine (radd_calls w1 r l e _ r1 l1 e1 _ (HV.out.below hb1) hs1 (by omega) (by omega)).mono ?_
        rintro en w2 ⟨r2, l2, e2, rfl, hs2, hb2, hn2⟩
        rw [← mod_succ_bit HX.out] at hs2
        have hbw2 : Below w.heap.size w w2 := (hbw.trans (hb1.mono hbw.size)).trans (hb2.mono (Nat.le_trans hbw.size hb1.size))
        go_wp2
        go_roundw
        case rel => exact ⟨k + 1, r2, l2, e2, by omega, by go_num, rfl, hs2, hn2.mono (Nat.le_trans hbw.size hb1.size), hbw2⟩
        case measure => simp [intOf]; omega
      | false =>
        go_wp2
        go_roundw
        case rel => exact ⟨k + 1, r, l, e, by omega, by go_num, rfl, by rw [mod_succ_nobit HX.out]; exact HV.out, hnew, hbw⟩
        case measure => simp [intOf]; omega
    · have HE : Hid (N * (M % 2 ^ k) = N * M) := Lib.hid (by rw [Nat.mod_eq_of_lt ((blen_le M k).1 (by rw [← HM.out]; omega))])
      have HV := Lib.hid hv
      clear hv
      go_wp2
      go_ret
      exact ⟨r, l, e, rfl, by rw [← HE.out]; exact HV.out, hbw, hnew⟩

end Go.Proofs.Ytoleblefdmdbjaa
