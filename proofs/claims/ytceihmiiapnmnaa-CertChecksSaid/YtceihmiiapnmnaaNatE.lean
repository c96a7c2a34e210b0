/- The difference of two numbers. -/
import Derived.Test.YtceihmiiapnmnaaNatB
import Derived.Test.YtceihmiiapnmnaaNatD
namespace Go.Proofs.Ytceihmiiapnmnaa
open Go Go.RowKit
set_option maxRecDepth 100000

/-- What is borrowed. -/
def brw (x y c : Nat) : Nat := if x < y + c then 1 else 0
theorem brw_le (x y c : Nat) : brw x y c ≤ 1 := by unfold brw; split <;> omega

theorem top_bit (n : Nat) (h : n < 4294967296) : n.testBit 31 = decide (2147483648 ≤ n) := by
  rw [Nat.testBit_eq_decide_div_mod_eq]
  simp only [Nat.reducePow]
  rw [decide_eq_decide]
  omega

theorem top_div (n : Nat) (h : n < 4294967296) : n / 2147483648 = (n.testBit 31).toNat := by
  rw [top_bit n h]
  by_cases h1 : 2147483648 ≤ n
  · simp [h1]; omega
  · simp [h1]; omega

theorem and_lt32n {a b : Nat} (h : b < 4294967296) : a &&& b < 4294967296 := Nat.lt_of_le_of_lt Nat.and_le_right h
theorem xor_lt32n {a b : Nat} (ha : a < 4294967296) (hb : b < 4294967296) : a ^^^ b < 4294967296 := Nat.xor_lt_two_pow (n := 32) ha hb
theorem or_lt32n {a b : Nat} (ha : a < 4294967296) (hb : b < 4294967296) : a ||| b < 4294967296 := Nat.or_lt_two_pow (n := 32) ha hb

theorem sub32_top (x y c d : Nat) (hx : x < 4294967296) (hy : y < 4294967296) (hc : c ≤ 1) (hd : d = (x + 8589934592 - y - c) % 4294967296) :
    (((4294967295 ^^^ x) &&& y) ||| ((4294967295 ^^^ (x ^^^ y)) &&& d)) / 2147483648 = brw x y c := by
  have hdl : d < 4294967296 := by rw [hd]; exact Nat.mod_lt _ (by omega)
  rw [top_div _ (or_lt32n (and_lt32n hy) (and_lt32n hdl))]
  simp only [Nat.testBit_or, Nat.testBit_and, Nat.testBit_xor]
  rw [top_bit x hx, top_bit y hy, top_bit d hdl, top_bit 4294967295 (by omega)]
  unfold brw
  by_cases h1 : 2147483648 ≤ x <;> by_cases h2 : 2147483648 ≤ y <;> by_cases h3 : 2147483648 ≤ d <;> by_cases h4 : x < y + c <;> simp [h1, h2, h3, h4] <;> omega

theorem sub32_bits (x y c : Nat) (hx : x < 4294967296) (hy : y < 4294967296) (hc : c ≤ 1) :
    bits BinOp.or IntKind.u32 (bits BinOp.and IntKind.u32 (bits BinOp.xor IntKind.u32 IntKind.u32.max ↑x) ↑y)
                (bits BinOp.and IntKind.u32
                  (bits BinOp.xor IntKind.u32 IntKind.u32.max (bits BinOp.xor IntKind.u32 ↑x ↑y))
                  (((x : Int) - y - c) % 4294967296)) / 2147483648 = (brw x y c : Nat) := by
  have hm : IntKind.u32.max = ((4294967295 : Nat) : Int) := rfl
  obtain ⟨d, hd⟩ : ∃ d, d = (x + 8589934592 - y - c) % 4294967296 := ⟨_, rfl⟩
  have hd' : ((x : Int) - y - c) % 4294967296 = (d : Nat) := by omega
  have hdl : d < 4294967296 := by omega
  rw [hm, hd', u32_xor_nat _ _ (by omega) hx, u32_xor_nat _ _ hx hy, u32_xor_nat _ _ (by omega) (xor_lt32n hx hy), u32_and_nat _ _ (xor_lt32n (by omega) hx) hy,
    u32_and_nat _ _ (xor_lt32n (by omega) (xor_lt32n hx hy)) hdl, u32_or_nat _ _ (and_lt32n hy) (and_lt32n hdl)]
  have := sub32_top x y c d hx hy hc hd
  omega

set_option maxHeartbeats 400000 in
theorem sub32_calls (x y c : Nat) (w : World) (hx : x < 4294967296) (hy : y < 4294967296) (hc : c ≤ 1) :
    Calls Try.prog 53 #[.int .u32 x, .int .u32 y, .int .u32 c] w fun e w' =>
      e = .returned (.tuple #[.int .u32 (((x : Int) - y - c) % 4294967296), .int .u32 (brw x y c : Nat)]) ∧ w = w' := by
  have hs : IntKind.u32.signed = false := rfl
  have hq := Lib.hid (sub32_bits x y c hx hy hc)
  go_enter Try.func53, Try.ntmps53
  go_wp2
  go_ret2
  have e6 : (((x : Int) - y) % 4294967296 - c) % 4294967296 = ((x : Int) - y - c) % 4294967296 := by omega
  exact ⟨by rw [hq.out]; exact congrArg (fun z => Ending.returned (.tuple #[.int .u32 z, .int .u32 (brw x y c : Nat)])) e6, rfl⟩

/-- The words of a difference, so far. -/
structure DifSt (A B : List Nat) (k : Nat) (S : List Nat) (bw : Nat) : Prop where
  len : S.length = k
  words : Words S
  carry : bw ≤ 1
  eq : val S + val (B.take k) = val (A.take k) + B32 k * bw

theorem DifSt.start (A B : List Nat) : DifSt A B 0 [] 0 := ⟨rfl, Words.nil, by omega, by simp [val]⟩

theorem DifSt.step {A B : List Nat} {k : Nat} {S : List Nat} {bw d : Nat} (h : DifSt A B k S bw) (hA : Words A) (hB : Words B) (hd : (d : Int) = (((A.getD k 0 : Nat) : Int) - (B.getD k 0 : Nat) - bw) % 4294967296) :
    DifSt A B (k + 1) (S ++ [d]) (brw (A.getD k 0) (B.getD k 0) bw) := by
  have h1 := hA.get k
  have h2 := hB.get k
  have h3 := h.carry
  refine ⟨by simp [h.len], h.words.snoc (by omega), brw_le _ _ _, ?_⟩
  rw [val_snoc, h.len, val_take_succ', val_take_succ', B32_succ]
  have e := h.eq
  have hb : d + B.getD k 0 + bw = A.getD k 0 + 4294967296 * brw (A.getD k 0) (B.getD k 0) bw := by
    unfold brw; split <;> omega
  generalize A.getD k 0 = x at *
  generalize B.getD k 0 = y at *
  generalize brw x y bw = q at *
  generalize B32 k = b at *
  have e2 : b * (d + y + bw) = b * (x + 4294967296 * q) := by rw [hb]
  have e3 : b * (4294967296 * q) = 4294967296 * b * q := by rw [← Nat.mul_assoc, Nat.mul_comm b]
  rw [Nat.mul_add, Nat.mul_add, Nat.mul_add, e3] at e2
  omega

theorem DifSt.last {A B : List Nat} {k : Nat} {S : List Nat} {bw : Nat} (h : DifSt A B k S bw) (hA : A.length = k) (hB : B.length ≤ k) (hle : val B ≤ val A) : val S = val A - val B := by
  have e := h.eq
  rw [List.take_of_length_le (l := A) (by omega), List.take_of_length_le hB] at e
  have h1 := h.words.lt
  rw [h.len] at h1
  have h2 := h.carry
  rcases Nat.lt_or_ge bw 1 with h3 | h3
  · obtain rfl : bw = 0 := by omega
    omega
  · obtain rfl : bw = 1 := by omega
    omega

/-- A difference as an answer, and whether there is one. -/
def GivesDif (N M : Nat) (w : World) (e : Ending) (w' : World) : Prop := ∃ p n c, e = .returned (.tuple #[.agg #[.slice p n c], .bool (decide (M ≤ N))]) ∧ NatAt w' p n c (N - M) ∧ Below w.heap.size w w' ∧ New w.heap.size p

set_option maxHeartbeats 1000000 in
theorem sub_calls (w : World) (pa : Option Addr) (na ca N : Nat) (pb : Option Addr) (nb cb M : Nat) (hA : NatAt w pa na ca N) (hB : NatAt w pb nb cb M) (hs : na < 1000000) (hsb : nb < 1000000) :
    Calls Try.prog 31 #[.agg #[.slice pa na ca], .agg #[.slice pb nb cb]] w (GivesDif N M w) := by
  have hb0 : Below w.heap.size w (((w.alloc (.cells #[.slice pa na ca] 43)).alloc (.cells #[.slice pb nb cb] 43)).alloc (.cells #[.slice none 0 0] 43)) :=
    (((Below.refl _ w).alloc (Nat.le_refl _) _).alloc (by simp) _).alloc (by simp; omega) _
  by_cases hlt : N < M
  · have hcm : cmpI N M = -1 := cmpI_lt hlt
    go_enter Try.func31, Try.ntmps31
    go_wp2_with fail
    refine (cmp_calls _ pa pb na ca N nb cb M (hA.below hb0) (hB.below hb0) hs hsb).mono ?_
    rintro e w1 ⟨rfl, hb1⟩
    obtain ⟨hc, hf⟩ := bcell hb1
    have hz := hb1.size
    simp only [World.size_alloc] at hz
    go_wp2
    refine bodyPost_ret (v := .tuple #[.agg #[.slice none 0 0], .bool false]) (by simp [results, Try.results31, go_sem, hc]) rfl ⟨none, 0, 0, by simp [show ¬ M ≤ N by omega], ?_, ?_, New.none _⟩
    · exact ⟨[], Row.nil _ _, Words.nil, by simp, by simp [val]; omega⟩
    · exact (hb0.trans (hb1.mono (by simp; omega))).setCell (by simp; omega) _
  · have hcm : ¬ cmpI N M < 0 := by
      unfold cmpI; rw [if_neg hlt]; split <;> omega
    obtain ⟨A, a1, a2, a3, rfl⟩ := hA.ex
    obtain ⟨B, b1, b2, b3, rfl⟩ := hB.ex
    have HA := Lib.hid a1.len
    have HB := Lib.hid b1.len
    have hle : nb ≤ na := by
      rcases Nat.lt_or_ge na nb with h | h
      · exact absurd (hA.len_lt hB h) hlt
      · exact h
    have hmk := make_u32 na (by omega)
    go_enter Try.func31, Try.ntmps31
    go_wp2_with fail
    refine (cmp_calls _ pa pb na ca _ nb cb _ (hA.below hb0) (hB.below hb0) hs hsb).mono ?_
    rintro e w1 ⟨rfl, hb1⟩
    have hbx := (Boxes3.mk3 w (.slice pa na ca) (.slice pb nb cb) (.slice none 0 0) 43 43 43).later hb1
    have c0 := hbx.c0
    have c1 := hbx.c1
    have c2 := hbx.c2
    have f2 := hbx.f2
    have hz0 : w.heap.size < w1.heap.size := by have := hbx.size; omega
    have hz1 : w.heap.size + 1 < w1.heap.size := by have := hbx.size; omega
    have hz2 : w.heap.size + 1 + 1 < w1.heap.size := by have := hbx.size; omega
    have HC := Lib.hid (show decide (cmpI (val A) (val B) < 0) = false by simpa using hcm)
    go_wp2
    go_loopw [7, 22] (fun cy i wr => ∃ k c : Nat, ∃ S, k ≤ na ∧ i = .int .i64 k ∧ cy = .int .u32 c ∧ Boxes3 w wr (.slice pa na ca) (.slice pb nb cb) (.slice none 0 0) ∧ w1.heap.size < wr.heap.size ∧ Below w1.heap.size w1 wr ∧ DifSt A B k S c ∧ Blk wr w1.heap.size 70 .u32 (S ++ List.replicate (na - k) 0)) (fun _ i _ => na - (intOf i).toNat)
    case atStart =>
      refine ⟨0, 0, [], by omega, rfl, rfl, hbx.alloc _, by simp, (Below.refl _ _).alloc (Nat.le_refl _) _, DifSt.start A B, ?_⟩
      exact Blk.zeros _ _ _ _
    case round =>
      obtain ⟨k, bw, S, hk, rfl, rfl, hbr, hsr, hbw, hS, hblk⟩ := hrel
      clear c0 c1 c2 f2
      have d0 := hbr.c0
      have d1 := hbr.c1
      have d2 := hbr.c2
      have g2 := hbr.f2
      by_cases hkn : k < na
      · obtain ⟨b, off, rfl, hb, hc⟩ := a1.pos (by omega)
        obtain ⟨x, hx⟩ : ∃ x, A.getD k 0 = x := ⟨_, rfl⟩
        obtain ⟨y, hy⟩ : ∃ y, B.getD k 0 = y := ⟨_, rfl⟩
        have hci : wr.cell? ⟨b, off + k, none⟩ = some (.int .u32 (x : Nat)) := by
          rw [(bcell hbr.bel).1 _ _ hb]
          exact hc k x (by rw [← hx, List.getD_eq_getElem?_getD]; simp [show k < A.length by have := HA.out; omega])
        have HX := Lib.hid hx
        have HY := Lib.hid hy
        have HSk := Lib.hid hS.len
        clear hc hx hy
        have hg0 := hblk.zero_cell HSk.out (by omega)
        have hgf := hblk.free k
        go_wp2_with fail
        refine (word_calls wr pb nb cb B k y (b1.below hbr.bel) (by omega) HY.out).mono ?_
        rintro e w2 ⟨rfl, hb2⟩
        have hy : y < 4294967296 := by rw [← HY.out]; exact b2.get k
        have hx' : x < 4294967296 := by rw [← HX.out]; exact a2.get k
        have hcy := hS.carry
        have hg0' := ((bcell hb2).1 _ k hblk.lt).trans hg0
        have hgf' := ((bcell hb2).2 _ k hblk.lt).trans hgf
        obtain ⟨d, hd⟩ : ∃ d : Nat, (d : Int) = ((x : Int) - y - bw) % 4294967296 := ⟨(((x : Int) - y - bw) % 4294967296).toNat, by omega⟩
        have HD := Lib.hid hd
        clear hd
        go_wp2_with fail
        refine (sub32_calls x y bw _ hx' hy hcy).mono ?_
        rintro e w3 ⟨rfl, rfl⟩
        rw [← HD.out]
        go_wp2
        go_roundw
        case rel =>
          refine ⟨k + 1, _, S ++ [d], by omega, by go_num, rfl, (hbr.later hb2).below (B := w.heap.size + 3) ((Below.refl _ _).setCell (by simp; omega) _) (Nat.le_refl _), by have := hb2.size; simp; omega, (hbw.trans (hb2.mono (by omega))).setCell (by simp) _, ?_, ?_⟩
          · have := hS.step (d := d) a2 b2 (by rw [HX.out, HY.out]; exact HD.out)
            rw [HX.out, HY.out] at this
            exact this
          · exact (hblk.below hb2 hblk.lt).next HSk.out (by omega) d
        case measure => clear HD; simp [intOf]; omega
      · have hkn' : na ≤ k := by omega
        have hrow := (hblk.row (n := na) (c := na) (by have := hS.len; simp; omega) (Nat.le_refl _) (by omega))
        have hw2 : Words (S ++ List.replicate (na - k) 0) := hS.words.append (Words.zeros _)
        go_wp2_with fail
        refine (trimmed_calls _ _ _ _ _ hrow hw2).mono ?_
        rintro e w2 ⟨p, n, c, rfl, hn, hb2, hp⟩
        have hbx3 := hbr.later hb2
        have k2 := hbx3.c2
        have e2 := hbx3.f2
        have hn' : New w1.heap.size p := by
          intro q hq
          rcases hp with rfl | rfl
          · cases hq
          · cases hq; simp
        have hv : val (S ++ List.replicate (na - k) 0) = val A - val B := by
          rw [val_append, val_zeros, Nat.mul_zero, Nat.add_zero]
          exact hS.last (by have := HA.out; omega) (by have := HB.out; omega) (by omega)
        have HV := Lib.hid hv
        clear hv
        go_wp2
        refine bodyPost_ret (v := .tuple #[.agg #[.slice p n c], .bool true]) (by simp [results, Try.results31, go_sem, k2]) rfl ⟨p, n, c, by simp [show val B ≤ val A by omega], ?_, ?_, hn'.mono (by omega)⟩
        · rw [← HV.out]
          exact hn.setCell (a := ⟨w.heap.size + 1 + 1, 0, none⟩) (hn'.ne hz2) (.slice p n c)
        · exact hbx3.bel.setCell (by simp; omega) _

end Go.Proofs.Ytceihmiiapnmnaa
