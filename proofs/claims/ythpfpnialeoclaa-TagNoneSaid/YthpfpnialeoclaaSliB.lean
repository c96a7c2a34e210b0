/- slices.Grow of nothing and slices.Concat of two rows of bytes. -/
import Derived.Test.YthpfpnialeoclaaSliA
import Derived.Lib.AppendZeros
namespace Go.Proofs.Ythpfpnialeoclaa
open Go Go.RowKit

set_option maxHeartbeats 1000000 in
set_option maxRecDepth 100000 in
theorem grow8_calls (w : World) (n : Nat) (hn : n ≤ 1000000) :
    Calls Try.prog 45 #[.slice none 0 0, .int .i64 n] w fun e w' => ∃ v, e = .returned v ∧ Own w' w.heap.size v [] ∧ Below w.heap.size w w' := by
  rcases Nat.eq_zero_or_pos n with rfl | h0
  · go_enter Try.func45, Try.ntmps45
    go_wp2
    go_ret
    exact ⟨_, rfl, Own.nil _ _, Below.refl _ _⟩
  · obtain ⟨i, hi, hz, hs, hb⟩ := info_parts Try.info_u8
    have happ := Lib.run_append_nil_zeros (P := Try.prog) w 22 3 22 5 i (.int .u8 0) .i64 .i64 Try.underlying22 Try.underlying3 hi hz n h0 (by omega) (by omega) (by rw [hb]; omega)
    have hcap := grownCap_le_maxLen w n 0 5 (by unfold maxLen; omega)
    have hge := grownCap_ge w n 0 5
    generalize grownCap w n 0 5 = cap at happ hcap hge
    generalize hZ : (Builtin.zeroCells (Value.int .u8 0).cells n ++ Builtin.zeroCells (Value.int .u8 0).cells (cap - n)) = Z at happ
    have hZs : Z.size = cap := by rw [← hZ]; simp [size_zeroCells, Value.cells]; omega
    have HO : Hold (Own (w.drew.alloc (.cells Z 5)) w.heap.size (.slice (some ⟨w.heap.size, 0, none⟩) 0 cap) []) :=
      ⟨⟨⟨by simp, .inr ⟨w.heap.size, cap, Z, rfl, Nat.le_refl _, heap_alloc_new w.drew _, Nat.zero_le _, hcap, by simpa using hZs, by simp⟩⟩⟩⟩
    have HB : Hold (Below w.heap.size w (w.drew.alloc (.cells Z 5))) := ⟨(Below.refl _ _).drew.alloc (Nat.le_refl _) _⟩
    have hc9 : cap ≤ 9223372036854775807 := by simpa [maxLen] using hcap
    clear hZ hcap hi hz hs hb
    generalize w.drew.alloc (.cells Z 5) = w1 at happ HO HB
    go_enter Try.func45, Try.ntmps45
    go_wp2_with (at_builtin; refine Lib.wpList_append_run _ rfl _ _ _ _ rfl _ _ rfl rfl _ _ happ ?_; refine Paused.out ?_)
    refine ⟨?_⟩
    go_wp2
    go_ret
    exact ⟨_, rfl, HO.out, HB.out⟩

/-- Two rows as a row of rows. -/
def Two (w : World) (s : Nat) (u v : Value) : Prop := w.heap[s]? = some (.cells #[u, v] 22 (0, 0))
theorem Two.below {w w' : World} {s : Nat} {u v : Value} (h : Two w s u v) (hb : Below w.heap.size w w') : Two w' s u v := by
  unfold Two at *
  rw [hb.block s (Array.getElem?_eq_some_iff.1 h).1]; exact h
theorem Two.cell {w : World} {s : Nat} {u v : Value} (h : Two w s u v) : w.cell? ⟨s, 0, none⟩ = some u ∧ w.cell? ⟨s, 1, none⟩ = some v := by
  unfold Two at h
  exact ⟨by simp [World.cell?, h], by simp [World.cell?, h]⟩

set_option maxHeartbeats 4000000 in
set_option maxRecDepth 100000 in
theorem concat8_calls (w : World) (s : Nat) (pa : Option Addr) (na ca : Nat) (xs : List Nat) (pb : Option Addr) (nb cb : Nat) (ys : List Nat)
    (hs : Two w s (.slice pa na ca) (.slice pb nb cb)) (ha : RowIn w .u8 pa na ca xs) (hza : pa = none → ca = 0) (hb : RowIn w .u8 pb nb cb ys) (hzb : pb = none → cb = 0) (hna : na ≤ 100000) (hnb : nb ≤ 100000) :
    Calls Try.prog 31 #[.slice (some ⟨s, 0, none⟩) 2 2] w (GivesOwn (xs ++ ys) w) := by
  have HS : Hold _ := ⟨hs⟩
  have HA : Hold _ := ⟨ha⟩
  have HBb : Hold _ := ⟨hb⟩
  clear hs ha hb
  go_enter Try.func31, Try.ntmps31
  go_wp2
  go_loopw [3, 11] (fun sv iv wr => w = wr ∧ ∃ k : Nat, k ≤ 2 ∧ iv = .int .i64 k ∧ sv = .int .i64 ((if k = 0 then 0 else if k = 1 then na else na + nb : Nat) : Int)) (fun _ iv _ => 2 - (intOf iv).toNat)
  case atStart => exact ⟨rfl, 0, by omega, rfl, rfl⟩
  case round =>
    obtain ⟨rfl, k, hk, rfl, rfl⟩ := hrel
    obtain ⟨hc0, hc1⟩ := HS.out.cell
    rcases (by omega : k = 0 ∨ k = 1 ∨ k = 2) with rfl | rfl | rfl
    · simp only [if_true]
      go_wp2
      go_roundw
      case rel => exact ⟨trivial, 1, by omega, rfl, by simp⟩
      case measure => simp [intOf]
    · simp only [if_true, Nat.one_ne_zero, if_false]
      go_wp2
      go_roundw
      case rel => exact ⟨trivial, 2, by omega, rfl, by simp⟩
      case measure => simp [intOf]
    · simp only [Nat.reduceEqDiff, if_false]
      go_wp2_with fail
      refine (grow8_calls w (na + nb) (by omega)).mono ?_
      rintro e w1 ⟨v1, rfl, ho1, hb1⟩
      have HO1 : Hold _ := ⟨ho1⟩
      have HB1 : Hold _ := ⟨hb1⟩
      clear ho1 hb1 hc0 hc1
      go_wp2
      go_loopw [6, 27] (fun ov iv wq => ∃ k : Nat, k ≤ 2 ∧ iv = .int .i64 k ∧ Hold (Own wq w.heap.size ov (if k = 0 then [] else if k = 1 then xs else xs ++ ys)) ∧ Hold (Below w.heap.size w wq)) (fun _ iv _ => 2 - (intOf iv).toNat)
      case atStart => exact ⟨0, by omega, rfl, ⟨HO1.out⟩, HB1⟩
      case round =>
        obtain ⟨k, hk, rfl, HO, HB⟩ := hrel
        obtain ⟨hc0, hc1⟩ := (HS.out.below HB.out).cell
        have hsz := HB.out.size
        have HGe : Hold _ := ⟨HO.out.ge⟩
        rcases (by omega : k = 0 ∨ k = 1 ∨ k = 2) with rfl | rfl | rfl
        · simp only [if_true] at HO
          have HR : Hold _ := ⟨HA.out.below HB.out⟩
          have hmx : Hold (([] : List Nat).length + na ≤ 140737488355328) := ⟨by simp; omega⟩
          go_wp2_with (at_builtin; refine wpList_app rfl _ _ rfl rfl HO.out rfl HR.out hza hmx.out hsz ?_; intro v2 w2 ho2 hg2; refine Paused.out ?_)
          refine ⟨?_⟩
          rw [List.nil_append] at ho2
          have HO2 : Hold _ := ⟨ho2⟩
          have HB2 : Hold _ := ⟨HB.out.trans (grown_below hg2 hsz HGe.out)⟩
          clear ho2 hg2
          go_wp2
          go_roundw
          case rel => exact ⟨1, by omega, rfl, ⟨HO2.out⟩, HB2⟩
          case measure => simp [intOf]
        · simp only [if_true, Nat.one_ne_zero, if_false] at HO
          have HR : Hold _ := ⟨HBb.out.below HB.out⟩
          have hmx : Hold (xs.length + nb ≤ 140737488355328) := ⟨by have := HA.out.len; omega⟩
          go_wp2_with (at_builtin; refine wpList_app rfl _ _ rfl rfl HO.out rfl HR.out hzb hmx.out hsz ?_; intro v2 w2 ho2 hg2; refine Paused.out ?_)
          refine ⟨?_⟩
          have HO2 : Hold _ := ⟨ho2⟩
          have HB2 : Hold _ := ⟨HB.out.trans (grown_below hg2 hsz HGe.out)⟩
          clear ho2 hg2
          go_wp2
          go_roundw
          case rel => exact ⟨2, by omega, rfl, ⟨HO2.out⟩, HB2⟩
          case measure => simp [intOf]
        · simp only [Nat.reduceEqDiff, if_false] at HO
          go_wp2
          go_ret
          exact ⟨_, rfl, OwnIs.mk HO.out, HB.out⟩

end Go.Proofs.Ythpfpnialeoclaa
