/- The law of small numbers. -/
import Derived.Test.YtoleblefdmdbjaaFit3
namespace Go.Proofs.Ytoleblefdmdbjaa
open Go Go.RowKit Go.Proofs.Ytoleblefdmdbjaa.Flow

def Yes (w : World) (e : Ending) (w' : World) : Prop := e = .returned (.bool true) ∧ Below w.heap.size w w'

set_option maxHeartbeats 4000000 in
set_option maxRecDepth 1000000 in
theorem small_law (w : World) (u : Nat) (hu : Hid (u < 18446744073709551616)) (py : Option Addr) (ny cy : Nat) (Y : List Nat) (hY : RowIn w .u8 py ny cy Y) (hY8 : Bytes8 Y) :
    Calls Try.prog 4 #[.int .u64 u, .slice py ny cy] w (Yes w) := by
  have hb64 : Hid (blen u ≤ 64) := Lib.hid ((blen_le u 64).2 hu.out)
  go_enter Try.func4, Try.ntmps4
  go_wp2_with fail
  refine (lives_calls _).mono ?_
  rintro e w1 ⟨rfl, hbw⟩
  go_wp2_with fail
  refine (new_calls u w1 hu.out).mono ?_
  rintro e w2 ⟨pa, na, ca, rfl, hA, hb, _⟩
  replace hbw := bstep hbw hb
  go_wp2_with fail
  refine (uint_calls w2 pa na ca u hA (by have := hA.len_le (k := 2) hu.out; omega)).mono ?_
  rintro e w3 ⟨rfl, hb⟩
  rw [if_pos hb64.out, decide_eq_true hb64.out]
  clear hA
  replace hbw := bstep hbw hb
  go_wp2_with fail
  refine (num_fit (hY.below hbw) hY8).mono ?_
  rintro e w4 ⟨pb, nb, cb, rfl, hB, hb⟩
  replace hbw := bstep hbw hb
  obtain ⟨N, hN⟩ : ∃ N, numOf Y = N := ⟨_, rfl⟩
  have hNl := numOf_lt hY8
  rw [hN] at hB hNl
  have HN := Lib.hid hN
  clear hN
  obtain ⟨pb', nb', cb', he, hB1, hB2⟩ := hB
  cases he
  have hnb := hB1.len_le hB2
  by_cases h64 : blen N ≤ 64
  · have hN64 : Hid (N < 18446744073709551616) := Lib.hid ((blen_le N 64).1 h64)
    have h64' := Lib.hid h64
    clear h64
    go_wp2_with fail
    refine (uint_calls w4 pb nb cb N hB1 (by omega)).mono ?_
    rintro e w5 ⟨rfl, hb⟩
    rw [if_pos h64'.out, decide_eq_true h64'.out]
    replace hbw := bstep hbw hb
    go_wp2_with fail
    refine (ref_fit (hY.below hbw) hY8).mono ?_
    rintro e w6 ⟨q, m, d, rfl, hR, hb⟩
    replace hbw := bstep hbw hb
    rw [HN.out] at hR
    have hm : m ≤ 64 := by rw [bits_len hR]; exact h64'.out
    have hm2 : decide ((m : Int) ≤ 64) = true := decide_eq_true (by omega)
    go_wp2_with fail
    refine (new_calls u w6 hu.out).mono ?_
    rintro e w7 ⟨pc, nc, cc, rfl, hC, hb, _⟩
    replace hbw := bstep hbw hb
    replace hR := hR.below hb
    go_wp2_with fail
    refine (small_calls u w7 hu.out).mono ?_
    rintro e w8 ⟨ps, ns, cs, rfl, hS, hb, _⟩
    replace hbw := bstep hbw hb
    replace hR := hR.below hb
    replace hC := hC.below hb
    go_wp2_with fail
    refine (same_fit (Fit.of (e := 2) hC hu.out) hS (by omega)).mono ?_
    rintro e w9 ⟨x, rfl, rfl, hb⟩
    replace hbw := bstep hbw hb
    replace hR := hR.below hb
    go_wp2_with fail
    refine (new_calls N w9 hN64.out).mono ?_
    rintro e w10 ⟨pe, ne, ce, rfl, hE, hb, _⟩
    replace hbw := bstep hbw hb
    replace hR := hR.below hb
    go_wp2_with fail
    refine (same_fit (Fit.of (e := 2) hE hN64.out) hR (by omega)).mono ?_
    rintro e w11 ⟨x, rfl, rfl, hb⟩
    replace hbw := bstep hbw hb
    go_wp2
    go_ret
    exact ⟨rfl, hbw⟩
  · have h64' := Lib.hid h64
    clear h64
    go_wp2_with fail
    refine (uint_calls w4 pb nb cb N hB1 (by omega)).mono ?_
    rintro e w5 ⟨rfl, hb⟩
    rw [if_neg h64'.out, decide_eq_false h64'.out]
    replace hbw := bstep hbw hb
    go_wp2_with fail
    refine (ref_fit (hY.below hbw) hY8).mono ?_
    rintro e w6 ⟨q, m, d, rfl, hR, hb⟩
    replace hbw := bstep hbw hb
    rw [HN.out] at hR
    have hm : ¬ (m : Int) ≤ 64 := by rw [bits_len hR]; have := h64'.out; omega
    have hm2 : decide ((m : Int) ≤ 64) = false := decide_eq_false hm
    go_wp2_with fail
    refine (new_calls u w6 hu.out).mono ?_
    rintro e w7 ⟨pc, nc, cc, rfl, hC, hb, _⟩
    replace hbw := bstep hbw hb
    go_wp2_with fail
    refine (small_calls u w7 hu.out).mono ?_
    rintro e w8 ⟨ps, ns, cs, rfl, hS, hb, _⟩
    replace hbw := bstep hbw hb
    replace hC := hC.below hb
    go_wp2_with fail
    refine (same_fit (Fit.of (e := 2) hC hu.out) hS (by omega)).mono ?_
    rintro e w9 ⟨x, rfl, rfl, hb⟩
    replace hbw := bstep hbw hb
    go_wp2
    go_ret
    exact ⟨rfl, hbw⟩

end Go.Proofs.Ytoleblefdmdbjaa
