/- Numbers out of small ones and out of bytes; a number's copy. -/
import Derived.Test.YtceihmiiapnmnaaGen
import Derived.Test.YtceihmiiapnmnaaNatB
import Derived.Test.YtceihmiiapnmnaaFlow
/-! Numbers, words and bytes: plain laws. -/
namespace Go.Proofs.Ytceihmiiapnmnaa
set_option maxRecDepth 100000

/-- The words of a number. -/
def wordsOf (V n : Nat) : List Nat := (List.range n).map fun j => V / B32 j % 4294967296

theorem wordsOf_length (V n : Nat) : (wordsOf V n).length = n := by simp [wordsOf]
theorem wordsOf_get {V n j : Nat} (h : j < n) : (wordsOf V n)[j]? = some (V / B32 j % 4294967296) := by simp [wordsOf, h]
theorem wordsOf_words (V n : Nat) : Words (wordsOf V n) := by
  intro x hx
  simp only [wordsOf, List.mem_map] at hx
  obtain ⟨j, _, rfl⟩ := hx
  exact Nat.mod_lt _ (by omega)

theorem wordsOf_succ (V n : Nat) : wordsOf V (n + 1) = wordsOf V n ++ [V / B32 n % 4294967296] := by
  simp [wordsOf, List.range_succ]

theorem val_wordsOf (V : Nat) : ∀ n, val (wordsOf V n) = V % B32 n
  | 0 => by simp [wordsOf, val, B32_zero, Nat.mod_one]
  | n + 1 => by
    rw [wordsOf_succ, val_snoc, wordsOf_length, val_wordsOf V n, B32_succ, Nat.mul_comm 4294967296, Nat.mod_mul]

theorem val_wordsOf_lt {V n : Nat} (h : V < B32 n) : val (wordsOf V n) = V := by rw [val_wordsOf, Nat.mod_eq_of_lt h]

theorem wordsOf_zero (n : Nat) : wordsOf 0 n = List.replicate n 0 := by
  apply List.ext_getElem (by simp [wordsOf])
  intro i h1 h2
  simp [wordsOf]

theorem B32_add (a b : Nat) : B32 (a + b) = B32 a * B32 b := by unfold B32; rw [Nat.pow_add]

/-- A word of a row is the number's. -/
theorem digit (ws : List Nat) (h : Words ws) : ∀ j, val ws / B32 j % 4294967296 = ws.getD j 0 := by
  induction ws with
  | nil => intro j; simp [val]
  | cons x xs ih =>
    have hx := h x (by simp)
    have hxs : Words xs := fun y hy => h y (by simp [hy])
    intro j
    cases j with
    | zero => simp only [val, B32_zero, Nat.div_one, List.getD_cons_zero]; omega
    | succ j =>
      rw [B32_succ, ← Nat.div_div_eq_div_mul, List.getD_cons_succ, ← ih hxs j]
      congr 2
      simp only [val]; omega

/-- 2^8, so often. -/
def B8 (k : Nat) : Nat := 256 ^ k
theorem B8_zero : B8 0 = 1 := rfl
theorem B8_succ (k : Nat) : B8 (k + 1) = 256 * B8 k := by unfold B8; rw [Nat.pow_succ, Nat.mul_comm]
theorem B8_pos (k : Nat) : 0 < B8 k := Nat.pow_pos (by omega)
theorem B8_add (a b : Nat) : B8 (a + b) = B8 a * B8 b := by unfold B8; rw [Nat.pow_add]
theorem B8_four (k : Nat) : B8 (4 * k) = B32 k := by
  unfold B8 B32; rw [Nat.pow_mul]
theorem B8_mono {a b : Nat} (h : a ≤ b) : B8 a ≤ B8 b := Nat.pow_le_pow_right (by omega) h

theorem B8_pow (k : Nat) : B8 k = 2 ^ (8 * k) := by unfold B8; rw [show (256 : Nat) = 2 ^ 8 from rfl, ← Nat.pow_mul]

/-- Bytes, the lowest first. -/
def le : List Nat → Nat
  | [] => 0
  | x :: xs => x + 256 * le xs

theorem le_append (xs ys : List Nat) : le (xs ++ ys) = le xs + B8 xs.length * le ys := by
  induction xs with
  | nil => simp [le, B8_zero]
  | cons x xs ih =>
    simp only [List.cons_append, le, ih, List.length_cons, B8_succ, Nat.mul_add, Nat.mul_assoc]
    omega

theorem le_snoc (xs : List Nat) (x : Nat) : le (xs ++ [x]) = le xs + B8 xs.length * x := by
  rw [le_append]; simp [le]

theorem Bytes8.lt {xs : List Nat} (h : Bytes8 xs) : le xs < B8 xs.length := by
  induction xs with
  | nil => simp [le, B8_zero]
  | cons x xs ih =>
    have h1 := ih fun y hy => h y (by simp [hy])
    have h2 := h x (by simp)
    simp only [le, List.length_cons, B8_succ]
    omega

theorem le_take_succ (xs : List Nat) (k : Nat) (h : k < xs.length) : le (xs.take (k + 1)) = le (xs.take k) + B8 k * xs.getD k 0 := by
  rw [take_snoc_getD xs k h, le_snoc]; simp [Nat.min_eq_left (Nat.le_of_lt h)]

/-- A byte put into the words. -/
theorem wordsOf_or {V n k x : Nat} (hV : V < B8 k) (hx : x < 256) :
    (wordsOf V n).set (k / 4) (V / B32 (k / 4) % 4294967296 + x * B8 (k % 4)) = wordsOf (V + B8 k * x) n ∧ V / B32 (k / 4) % 4294967296 < B8 (k % 4) ∧ V / B32 (k / 4) % 4294967296 + x * B8 (k % 4) < 4294967296 := by
  obtain ⟨q, r, hkq, hr, hq, hr'⟩ : ∃ q r, k = 4 * q + r ∧ r < 4 ∧ k / 4 = q ∧ k % 4 = r := ⟨k / 4, k % 4, by omega, by omega, rfl, rfl⟩
  rw [hq, hr']
  have hbk : B8 k = B32 q * B8 r := by rw [hkq, B8_add, B8_four]
  have hd : V / B32 q < B8 r := by
    rw [Nat.div_lt_iff_lt_mul (B32_pos q), Nat.mul_comm, ← hbk]; exact hV
  have hb4 : 256 * B8 r ≤ 4294967296 := by
    have : B8 (r + 1) ≤ B8 4 := B8_mono (by omega)
    rw [B8_succ] at this
    exact this
  have hb5 : B8 r ≤ 4294967296 := by have := B8_pos r; omega
  have hdm : V / B32 q % 4294967296 = V / B32 q := Nat.mod_eq_of_lt (by omega)
  have hxb : x * B8 r + B8 r ≤ 256 * B8 r := by
    have := Nat.mul_le_mul_right (B8 r) (show x + 1 ≤ 256 by omega)
    rw [Nat.add_mul, Nat.one_mul] at this
    exact this
  rw [hdm]
  have e1 : V + B8 k * x = V + B32 q * (B8 r * x) := by rw [hbk, Nat.mul_assoc]
  have hcm : B8 r * x = x * B8 r := Nat.mul_comm _ _
  refine ⟨?_, hd, by omega⟩
  apply List.ext_getElem (by simp [wordsOf])
  intro j h1 h2
  simp only [List.length_set, wordsOf_length] at h1
  rw [List.getElem_set]
  simp only [wordsOf, List.getElem_map, List.getElem_range]
  rw [e1]
  by_cases hqj : q = j
  · subst hqj
    rw [if_pos rfl, Nat.add_mul_div_left _ _ (B32_pos q), Nat.mod_eq_of_lt (by omega)]
    omega
  · rw [if_neg hqj]
    rcases Nat.lt_or_gt_of_ne hqj with hlt | hgt
    · -- above: both are nought
      have hb : B32 (q + 1) ≤ B32 j := B32_le (by omega)
      rw [B32_succ] at hb
      have h3 : V < B32 j := by
        have : B32 q * B8 r ≤ B32 q * 4294967296 := Nat.mul_le_mul_left _ hb5
        rw [Nat.mul_comm _ 4294967296] at this
        omega
      have h4 : V + B32 q * (B8 r * x) < B32 j := by
        have h5 : V < B32 q * B8 r := by rw [← hbk]; exact hV
        have h6 : B32 q * (B8 r * x) + B32 q * B8 r ≤ B32 q * 4294967296 := by
          rw [← Nat.mul_add]; exact Nat.mul_le_mul_left _ (by omega)
        rw [Nat.mul_comm _ 4294967296] at h6
        omega
      rw [Nat.div_eq_of_lt h3, Nat.div_eq_of_lt h4]
    · have hb : B32 q = B32 j * (4294967296 * B32 (q - j - 1)) := by
        rw [← B32_succ, ← B32_add]; congr 1; omega
      rw [hb, Nat.mul_assoc, Nat.add_mul_div_left _ _ (B32_pos j), Nat.mul_assoc 4294967296, Nat.add_mul_mod_self_left]
where
  B32_le {a b : Nat} (h : a ≤ b) : B32 a ≤ B32 b := Nat.pow_le_pow_right (by omega) h

end Go.Proofs.Ytceihmiiapnmnaa

namespace Go.Proofs.Ytceihmiiapnmnaa
open Go Go.RowKit Go.Proofs.Ytceihmiiapnmnaa.Flow

theorem cells_two (w : World) {a b : Int} {x y : Nat} (ha : a = (x : Nat)) (hb : b = (y : Nat)) (t : TypeId) {g : Nat} (hg : g = w.heap.size) : Row (w.alloc (.cells #[.int .u32 a, .int .u32 b] t)) .u32 (some ⟨g, 0, none⟩) 2 2 [x, y] := by
  subst ha; subst hb; subst hg
  refine ⟨rfl, Nat.le_refl _, by omega, .inr ⟨_, _, rfl, by simp, fun i z hx => ?_⟩⟩
  rw [World.cell?_alloc_at (hn := rfl)]
  match i, hx with
  | 0, hx => simp at hx; subst hx; simp
  | 1, hx => simp at hx; subst hx; simp

set_option maxHeartbeats 400000 in
theorem new_calls (n : Nat) (w : World) (hn : n < 18446744073709551616) :
    Calls Try.prog 15 #[.int .u64 n] w (GivesNat n w) := by
  go_enter Try.func15, Try.ntmps15
  go_wp2_with fail
  have hrow := cells_two (w.alloc (.cells #[.slice none 0 0] 43)) (a := (n : Int) % 4294967296) (b := (n : Int) / 4294967296) (x := n % 4294967296) (y := n / 4294967296) (by omega) (by omega) 70 (g := w.heap.size + 1) (by simp)
  have hw : Words [n % 4294967296, n / 4294967296] := by intro x hx; simp at hx; omega
  refine (trimmed_calls _ _ _ _ _ hrow hw).mono ?_
  rintro e w2 ⟨p, m, c, rfl, hn2, hb2, hp⟩
  have hbx := ((Box1.mk1 w (.slice none 0 0) 43).alloc _).later hb2
  have c0 := hbx.c0
  have f0 := hbx.f0
  have hn' : New (w.heap.size + 1) p := by
    intro q hq
    rcases hp with rfl | rfl
    · cases hq
    · cases hq; simp
  have hv : val [n % 4294967296, n / 4294967296] = n := by simp only [val]; omega
  have HV := Lib.hid hv
  clear hv
  go_wp2
  refine bodyPost_ret (v := .agg #[.slice p m c]) (by simp [results, Try.results15, go_sem, c0]) rfl ⟨p, m, c, rfl, ?_, ?_, hn'.mono (by omega)⟩
  · have := hn2.setCell (a := ⟨w.heap.size, 0, none⟩) (hn'.ne (show w.heap.size < w.heap.size + 1 by omega)) (.slice p m c)
    rw [HV.out] at this
    exact this
  · exact hbx.bel.setCell (Nat.le_refl _) _

set_option maxHeartbeats 400000 in
theorem zero_calls (w : World) (p : Option Addr) (n c : Nat) :
    Calls Try.prog 73 #[.agg #[.slice p n c]] w fun e w' => e = .returned (.bool (decide (n = 0))) ∧ Below w.heap.size w w' := by
  go_enter Try.func73, Try.ntmps73
  go_wp2
  go_ret
  refine ⟨?_, (Below.refl _ _).alloc (Nat.le_refl _) _⟩
  by_cases h : n = 0
  · subst h; rfl
  · have : ((n : Int) == 0) = false := by rw [beq_eq_false_iff_ne]; omega
    simp [h, this]

set_option maxHeartbeats 400000 in
theorem sclone_calls (w : World) (p : Option Addr) (n c : Nat) (ws : List Nat) (h : Row w .u32 p n c ws) (hn : n < 1000000) :
    Calls Try.prog 88 #[.slice p n c] w fun e w' => ∃ q d, e = .returned (.slice q n d) ∧ Row w' .u32 q n d ws ∧ Below w.heap.size w w' ∧ New w.heap.size q := by
  have hne := fun w => Lib.run_eql_slice_nil (P := Try.prog) w 41 70 p n c 0 0 Try.underlying41
  by_cases hp : p = none
  · subst hp
    rcases h.at_ with ⟨_, rfl, rfl⟩ | ⟨b, off, h1, _⟩
    · go_enter Try.func88, Try.ntmps88
      go_wp2
      go_ret
      exact ⟨none, 0, rfl, h, Below.refl _ _, New.none _⟩
    · cases h1
  · rcases h.at_ with ⟨h1, _⟩ | ⟨b, off, rfl, hb, hc⟩
    · exact absurd h1 hp
    · obtain ⟨i0, hi, hz0, hz1, hz2⟩ := info_parts Try.info_u32
      have hl := h.len
      have HL := Lib.hid hl
      have HC := Lib.hid hc
      clear hl hc
      have hown := World.ownsRow_made w (base := w.heap.size) (e := 70) (size := 1) #[] 0 (Nat.le_refl _) (by simp [maxLen]) (by simp)
      go_enter Try.func88, Try.ntmps88
      go_wp2_with (at_builtin; refine wpList_append_own _ rfl _ _ 41 rfl w.heap.size 70 i0 (.int .u32 0) 1 4 Try.underlying41 hi hz0 hz1 hz2 rfl (by decide) _ _ _ rfl hown ⟨b, off, none⟩ n c (ws.map fun (x : Nat) => Value.int .u32 x) rfl ?c1 ?c2 ?c3 ?c4 ?c5 ?c6 ?_)
      case c1 => simp; exact HL.out.symm
      case c2 =>
        intro j u hu
        have hadd : (⟨b, off, none⟩ : Addr).add j = ⟨b, off + j, none⟩ := by unfold Addr.add; split <;> simp_all
        rw [hadd, World.cell?_alloc_past (hn := hb)]
        rw [List.getElem?_map] at hu
        cases hx : ws[j]? with
        | none => rw [hx] at hu; cases hu
        | some x => rw [hx] at hu; cases hu; exact HC.out j x hx
      case c3 => intro u hu; simp only [List.mem_map] at hu; obtain ⟨x, _, rfl⟩ := hu; rfl
      case c4 => unfold maxLen; omega
      case c5 => omega
      case c6 => simp
      intro v1 w1 ho1 hg1 _
      obtain ⟨q, d, rfl, hrow, hnew⟩ := Row.of_owns ho1
      have hb1 : Below w.heap.size w w1 := ((Below.refl _ w).alloc (Nat.le_refl _) _).grown hg1 (by simp) (fun k e => by simp [Value.ownBlock] at e; omega)
      go_wp2
      go_ret
      exact ⟨q, d, rfl, hrow, hb1, hnew⟩

set_option maxHeartbeats 400000 in
theorem clone_calls (w : World) (p : Option Addr) (n c N : Nat) (h : NatAt w p n c N) (hn : n < 1000000) :
    Calls Try.prog 83 #[.agg #[.slice p n c]] w (GivesNat N w) := by
  obtain ⟨ws, h1, h2, h3, h4⟩ := h.ex
  have H4 := Lib.hid h4
  clear h4
  have hbx := Boxes2.mk2 w (.slice p n c) (.slice none 0 0) 43 43
  go_enter Try.func83, Try.ntmps83
  go_wp2_with fail
  refine (sclone_calls _ p n c ws (h1.below hbx.bel) hn).mono ?_
  rintro e w1 ⟨q, d, rfl, hrow, hb1, hnew⟩
  have hbx1 := hbx.later hb1
  have c1 := hbx1.c1
  have f1 := hbx1.f1
  have hnew' : New (w.heap.size + 2) q := hnew.mono (by simp)
  go_wp2
  refine bodyPost_ret (v := .agg #[.slice q n d]) (by simp [results, Try.results83, go_sem, c1]) rfl ⟨q, n, d, rfl, ?_, ?_, hnew'.mono (by omega)⟩
  · exact ⟨ws, hrow.setCell (hnew'.ne (show w.heap.size + 1 < w.heap.size + 2 by omega)) _, h2, h3, H4.out⟩
  · exact hbx1.bel.setCell (by simp) _

end Go.Proofs.Ytceihmiiapnmnaa
