/- The document's small primes. -/
import Derived.Test.YtceihmiiapnmnaaGen
import Derived.Laws.CopyOwn
import Derived.WalkSmall
import Derived.Test.YtceihmiiapnmnaaPock
import Derived.Test.YtceihmiiapnmnaaRing
/-! Worlds that are as they were but for one block; words for walks. Of no package of the program. -/
namespace Go.Proofs.Ytceihmiiapnmnaa
open Go Go.RowKit
set_option maxRecDepth 100000

/-- Put away: no search looks into it. -/
structure Hold (p : Prop) : Prop where
  out : p

/-- The walk halts here. -/
structure Paused (p : Prop) : Prop where
  out : p

/-- As before, but for one block. -/
structure But (g : Nat) (w w' : World) : Prop where
  os : w'.os = w.os
  tape : w'.tape = w.tape
  output : w'.output = w.output
  size : w.heap.size ≤ w'.heap.size
  block : ∀ k, k < w.heap.size → k ≠ g → w'.heap[k]? = w.heap[k]?

theorem But.refl (g : Nat) (w : World) : But g w w := ⟨rfl, rfl, rfl, Nat.le_refl _, fun _ _ _ => rfl⟩
theorem But.trans {g : Nat} {a b c : World} (h : But g a b) (k : But g b c) : But g a c :=
  ⟨k.os.trans h.os, k.tape.trans h.tape, k.output.trans h.output, Nat.le_trans h.size k.size, fun i hi hn => (k.block i (Nat.lt_of_lt_of_le hi h.size) hn).trans (h.block i hi hn)⟩
theorem But.of {g : Nat} {w w' : World} (h : Below w.heap.size w w') : But g w w' := ⟨h.os, h.tape, h.output, h.size, fun k hk _ => h.block k hk⟩
theorem But.below {g : Nat} {w w' : World} (h : But g w w') {B : Nat} (hg : B ≤ g) (hB : B ≤ w.heap.size) : Below B w w' :=
  ⟨h.os, h.tape, h.output, h.size, fun k hk => h.block k (by omega) (by omega)⟩
theorem But.setRow {g : Nat} (w : World) (cs : Array Value) : But g w (w.setRow g cs) := ⟨rfl, rfl, rfl, by simp [World.setRow], fun k _ hn => setRow_other w g k cs hn⟩
theorem But.setCell {g : Nat} (w : World) (o : Nat) (u : Value) : But g w (w.setCell ⟨g, o, none⟩ u) := ⟨rfl, rfl, rfl, by simp [World.setCell], fun k _ hn => Below.heap_setCell _ _ _ _ hn⟩
theorem But.drew {g : Nat} {w w' : World} (h : But g w w') : But g w w'.drew := ⟨h.os, h.tape, h.output, h.size, h.block⟩
theorem But.cell {g : Nat} {w w' : World} (h : But g w w') {p : Addr} (hp : p.block < w.heap.size) (hn : p.block ≠ g) : w'.cell? p = w.cell? p := World.cell?_of_block (w := w) (h.block p.block hp hn)

theorem bstepS {a b c : World} (h : Below a.heap.size a b) (k : Below b.heap.size b c) : Below a.heap.size a c := h.trans (k.mono h.size)
end Go.Proofs.Ytceihmiiapnmnaa

namespace Go.Proofs.Ytceihmiiapnmnaa
open Go Go.RowKit Go.Proofs.Ytceihmiiapnmnaa.Flow

set_option maxHeartbeats 1000000 in
set_option maxRecDepth 100000 in
theorem value_calls (w : World) (p : Option Addr) (n c N : Nat) (h : BitsAt w p n c N) :
    Calls Try.prog 25 #[.slice p n c] w fun e w' => e = .returned (.int .i64 (if N < 65536 then (N : Int) else -1)) ∧ Below w.heap.size w w' := by
  have hn := bits_len h
  by_cases h16 : 16 < n
  · have hN : ¬ N < 65536 := fun hlt => by have := (blen_le N 16).2 hlt; omega
    have h16' : (16 : Int) < n := by omega
    rw [if_neg hN]
    clear hN
    go_enter Try.func25, Try.ntmps25
    go_wp2
    go_ret
    exact ⟨rfl, Below.refl _ _⟩
  · have hN : N < 65536 := (blen_le N 16).1 (by omega)
    have h16' : ¬ (16 : Int) < n := by omega
    rw [if_pos hN]
    have HN : Hold _ := ⟨hn⟩
    have HL : Hold (N < 2 ^ n) := ⟨by rw [hn]; exact blen_lt N⟩
    have HH : Hold _ := ⟨h⟩
    clear hN hn h
    go_enter Try.func25, Try.ntmps25
    go_wp2
    go_loopw [3, 11] (fun sv iv wr => w = wr ∧ ∃ k : Nat, k ≤ n ∧ iv = .int .i64 k ∧ sv = .int .i64 ((N % 2 ^ k : Nat) : Int)) (fun _ iv _ => n - (intOf iv).toNat)
    case atStart => exact ⟨rfl, 0, by omega, rfl, by simp [Nat.mod_one]⟩
    case round =>
      obtain ⟨rfl, k, hk, rfl, rfl⟩ := hrel
      obtain ⟨V, hV⟩ : ∃ V, N % 2 ^ k = V := ⟨_, rfl⟩
      rw [hV]
      by_cases hkn : k < n
      · obtain ⟨b, off, rfl, hb, hc⟩ := BRow.pos HH.out (by omega)
        have hci := hc k (bit N k) (bitsOf_get (by rw [← HN.out]; exact hkn))
        have hk16 : k < 16 := by omega
        have hsh : ∀ x : Nat, x < 16 → (1 : Int) * 2 ^ x = ((2 ^ x : Nat) : Int) := fun x _ => by simp
        have h2k : 2 ^ k ≤ 32768 := by
          have : 2 ^ k ≤ 2 ^ 15 := Nat.pow_le_pow_right (by omega) (by omega)
          omega
        have hV2 : V < 2 ^ k := by rw [← hV]; exact Nat.mod_lt _ (Nat.pow_pos (by omega))
        have HS : Hold (N % 2 ^ (k + 1) = V + (if bit N k then 2 ^ k else 0)) := ⟨by rw [← hV]; exact mod_bit N k⟩
        clear hc hV
        cases hbit : bit N k with
        | true =>
          rw [hbit] at hci HS
          go_wp2
          go_roundw
          case rel =>
            refine ⟨trivial, k + 1, by omega, by go_num, ?_⟩
            rw [HS.out, if_pos rfl, show (2 : Int) ^ k = ((2 ^ k : Nat) : Int) by simp]
            generalize 2 ^ k = P at *
            congr 1
            unfold wrap64
            omega
          case measure => simp [intOf]; omega
        | false =>
          rw [hbit] at hci HS
          go_wp2
          go_roundw
          case rel => exact ⟨trivial, k + 1, by omega, by go_num, by rw [HS.out]; simp⟩
          case measure => simp [intOf]; omega
      · obtain rfl : k = n := by omega
        have HV : Hold (V = N) := ⟨by rw [← hV]; exact Nat.mod_eq_of_lt HL.out⟩
        clear hV
        go_wp2
        go_ret
        exact ⟨by rw [HV.out]; rfl, Below.refl _ _⟩

set_option maxHeartbeats 1000000 in
set_option maxRecDepth 100000 in
open Classical in
theorem dsmall_calls (w : World) (p : Option Addr) (n c N : Nat) (h : BitsAt w p n c N) :
    Calls Try.prog 12 #[.slice p n c] w fun e w' => e = .returned (.bool (decide (SmallP N))) ∧ Below w.heap.size w w' := by
  obtain ⟨V, hV⟩ : ∃ V : Int, (if N < 65536 then (N : Int) else -1) = V := ⟨_, rfl⟩
  by_cases h2 : V < 2
  · have hno : Hold (decide (SmallP N) = false) := ⟨decide_eq_false fun hs => by
      rw [if_pos hs.2.1] at hV
      have := hs.1; omega⟩
    go_enter Try.func12, Try.ntmps12
    go_wp2_with fail
    refine (value_calls w p n c N h).mono ?_
    rintro e w1 ⟨rfl, hb⟩
    rw [hV]
    clear hV
    go_wp2
    go_ret
    exact ⟨by rw [hno.out]; rfl, hb⟩
  · have hlt : N < 65536 := Nat.lt_of_not_le fun hge => by rw [if_neg (by omega)] at hV; omega
    rw [if_pos hlt] at hV
    subst hV
    have h2' : ¬ (N : Int) < 2 := h2
    have HLT : Hold (N < 65536) := ⟨hlt⟩
    have H2 : Hold (2 ≤ N) := ⟨by omega⟩
    go_enter Try.func12, Try.ntmps12
    go_wp2_with fail
    refine (value_calls w p n c N h).mono ?_
    rintro e w1 ⟨rfl, hb⟩
    rw [if_pos hlt]
    clear h
    have HB : Hold _ := ⟨hb⟩
    clear hb h2
    go_wp2
    go_loopw [4] (fun dv wr => w1 = wr ∧ ∃ d : Nat, 2 ≤ d ∧ d ≤ 256 ∧ dv = .int .i64 d ∧ Hold (∀ e, 2 ≤ e → e < d → N % e ≠ 0)) (fun dv _ => 300 - (intOf dv).toNat)
    case atStart => exact ⟨rfl, 2, by omega, by omega, rfl, ⟨fun e h1 h2 => by omega⟩⟩
    case round =>
      obtain ⟨rfl, d, hd2, hd, rfl, HD⟩ := hrel
      obtain ⟨S, hS⟩ : ∃ S, d * d = S := ⟨_, rfl⟩
      have hS' : (d : Int) * d = (S : Nat) := by rw [← hS]; simp
      have hSl : S ≤ 65536 := by rw [← hS]; exact Nat.mul_le_mul hd hd
      by_cases hdd : S ≤ N
      · have hdlt : d < 256 := Nat.lt_of_not_le fun hge => by
          have := Nat.mul_le_mul hge hge
          have := HLT.out
          omega
        have hmod : (N : Int).tmod d = ((N % d : Nat) : Int) := by rw [Int.tmod_eq_emod_of_nonneg (by omega)]; simp
        obtain ⟨R, hR⟩ : ∃ R, N % d = R := ⟨_, rfl⟩
        rw [hR] at hmod
        have hd0 : ¬ (d : Int) = 0 := by omega
        have hdd' : (S : Int) ≤ N := by omega
        rcases Nat.eq_zero_or_pos R with h0 | h0
        · have hno : Hold (decide (SmallP N) = false) := ⟨decide_eq_false fun hs => hs.2.2 d hd2 (by omega) (by omega)⟩
          subst h0
          have hS2 := Lib.hid hS
          have hR2 := Lib.hid hR
          clear hS hR
          go_wp2
          go_ret
          exact ⟨by rw [hno.out]; rfl, HB.out⟩
        · have hR0 : ((R : Int) == 0) = false := by rw [beq_eq_false_iff_ne]; omega
          have HD' : Hold (∀ e, 2 ≤ e → e < d + 1 → N % e ≠ 0) := ⟨fun e h1 h2 => by
            rcases (by omega : e < d ∨ e = d) with h3 | rfl
            · exact HD.out e h1 h3
            · rw [hR]; omega⟩
          have hS2 := Lib.hid hS
          have hR2 := Lib.hid hR
          clear hS hR
          go_wp2
          go_roundw
          case rel => exact ⟨trivial, d + 1, by omega, by omega, by go_num, HD'⟩
          case measure => simp [intOf]; omega
      · have hyes : Hold (decide (SmallP N) = true) := ⟨decide_eq_true ⟨H2.out, HLT.out, fun e h1 h2 => HD.out e h1 (Nat.lt_of_not_le fun hge => by
          have := Nat.mul_le_mul hge hge; omega)⟩⟩
        have hdd' : ¬ (S : Int) ≤ N := by omega
        have hS2 := Lib.hid hS
        clear hS
        go_wp2
        go_ret
        exact ⟨by rw [hyes.out]; rfl, HB.out⟩

theorem dsame_fit {w : World} {v u : Value} {N M : Nat} (h : RBits N v w) (k : RBits M u w) (hN : blen N ≤ 1000000) (hM : blen M ≤ 1000000) :
    Calls Try.prog 40 #[v, u] w fun e w' => e = .returned (.bool (decide (N = M))) ∧ Below w.heap.size w w' := by
  go_enter Try.func40, Try.ntmps40
  go_wp2_with fail
  refine (rcmp_fit h k hN hM).mono ?_
  rintro e w' ⟨_, rfl, rfl, hb⟩
  have e0 : ((cmpI N M : Int) == 0) = decide (N = M) := by
    by_cases hnm : N = M
    · simp [hnm, cmpI_zero.2]
    · have : cmpI N M ≠ 0 := fun h0 => hnm (cmpI_zero.1 h0)
      simp [hnm, this]
  have HE := Lib.hid e0
  have hbb := Lib.hid hb
  generalize cmpI N M = K at *
  clear e0 hb
  go_wp2
  go_ret
  exact ⟨by rw [← HE.out]; rfl, hbb.out⟩

end Go.Proofs.Ytceihmiiapnmnaa
