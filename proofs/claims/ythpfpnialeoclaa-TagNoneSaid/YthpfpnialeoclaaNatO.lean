/- The document's numbers: rows of bits; small ones. -/
import Derived.Test.YthpfpnialeoclaaNatC
import Derived.Test.YthpfpnialeoclaaFlow
namespace Go.Proofs.Ythpfpnialeoclaa
open Go Go.RowKit Go.Proofs.Ythpfpnialeoclaa.Flow

/-- A bit of a number. -/
def bit (N i : Nat) : Bool := decide (N / 2 ^ i % 2 = 1)
/-- Its bits, the lowest first. -/
def bitsOf (N : Nat) : List Bool := (List.range (blen N)).map (bit N)
/-- The lowest ones. -/
def bitsUp (N k : Nat) : List Bool := (List.range k).map (bit N)

theorem bitsUp_succ (N k : Nat) : bitsUp N (k + 1) = bitsUp N k ++ [bit N k] := by simp [bitsUp, List.range_succ]
theorem bitsUp_length (N k : Nat) : (bitsUp N k).length = k := by simp [bitsUp]
theorem bitsOf_length (N : Nat) : (bitsOf N).length = blen N := by simp [bitsOf]
theorem bitsOf_get {N i : Nat} (h : i < blen N) : (bitsOf N)[i]? = some (bit N i) := by simp [bitsOf, h]
theorem blen_gt {N k : Nat} (h : 0 < N / 2 ^ k) : k < blen N := by
  rcases Nat.lt_or_ge k (blen N) with h1 | h1
  · exact h1
  · rw [Nat.div_eq_of_lt ((blen_le N k).1 h1)] at h; omega
theorem blen_eq {N k : Nat} (h : N / 2 ^ k = 0) (hk : k ≤ blen N) : k = blen N := by
  refine Nat.le_antisymm hk ((blen_le N k).2 ?_)
  exact (Nat.div_eq_zero_iff.1 h).resolve_left (by have := Nat.pow_pos (n := k) (show 0 < 2 by omega); omega)

theorem mod_bit (N k : Nat) : N % 2 ^ (k + 1) = N % 2 ^ k + (if bit N k then 2 ^ k else 0) := by
  rw [Nat.pow_succ, Nat.mod_mul]
  unfold bit
  have : N / 2 ^ k % 2 < 2 := Nat.mod_lt _ (by omega)
  by_cases h : N / 2 ^ k % 2 = 1
  · simp [h]
  · have : N / 2 ^ k % 2 = 0 := by omega
    simp [this]

/-- A row of truths. -/
structure BRow (w : World) (p : Option Addr) (n c : Nat) (xs : List Bool) : Prop where
  len : n = xs.length
  cap : n ≤ c
  max : c ≤ 9223372036854775807
  at_ : (p = none ∧ n = 0 ∧ c = 0) ∨ ∃ b off, p = some ⟨b, off, none⟩ ∧ b < w.heap.size ∧ ∀ (i : Nat) (x : Bool), xs[i]? = some x → w.cell? ⟨b, off + i, none⟩ = some (.bool x)

theorem BRow.below {w w' : World} {p : Option Addr} {n c : Nat} {xs : List Bool} (h : BRow w p n c xs) (hb : Below w.heap.size w w') : BRow w' p n c xs := by
  refine ⟨h.len, h.cap, h.max, ?_⟩
  rcases h.at_ with h1 | ⟨b, off, h1, h2, h3⟩
  · exact .inl h1
  · refine .inr ⟨b, off, h1, Nat.lt_of_lt_of_le h2 hb.size, fun i x hx => ?_⟩
    rw [hb.cell (p := ⟨b, off + i, none⟩) h2]
    exact h3 i x hx

theorem BRow.nil (w : World) : BRow w none 0 0 [] := ⟨rfl, Nat.le_refl _, by omega, .inl ⟨rfl, rfl, rfl⟩⟩

theorem BRow.pos {w : World} {p : Option Addr} {n c : Nat} {xs : List Bool} (h : BRow w p n c xs) (hn : 0 < n) :
    ∃ b off, p = some ⟨b, off, none⟩ ∧ b < w.heap.size ∧ ∀ (i : Nat) (x : Bool), xs[i]? = some x → w.cell? ⟨b, off + i, none⟩ = some (.bool x) := by
  rcases h.at_ with h1 | h1
  · omega
  · exact h1

theorem BRow.of_owns {w : World} {base : Nat} {e : TypeId} {v : Value} {n : Nat} {ws : List Bool} (h : w.ownsRow base e 1 v n (ws.map Value.bool)) :
    ∃ q d, v = .slice q n d ∧ BRow w q n d ws ∧ New base q := by
  have hl : ws.length = n := by have := h.1; simpa using this
  rcases h.2 with ⟨rfl, rfl⟩ | ⟨g, cap, cur, rfl, hb, hg, hnc, hcm, hcs, htake⟩
  · have : ws = [] := List.eq_nil_of_length_eq_zero hl
    subst this
    exact ⟨none, 0, rfl, BRow.nil _, New.none _⟩
  · refine ⟨_, cap, rfl, ⟨hl.symm, hnc, by simpa [maxLen] using hcm, .inr ⟨g, 0, rfl, (Array.getElem?_eq_some_iff.1 hg).1, fun i x hx => ?_⟩⟩, fun q hq => by cases hq; exact hb⟩
    rw [Nat.zero_add, cell_of_row w g i cur e (0, 0) hg]
    have hi : i < n := by rw [← hl]; exact (List.getElem?_eq_some_iff.1 hx).1
    have : (cur.toList.take (n * 1))[i]? = some (.bool x) := by rw [htake]; simp [hx]
    rw [List.getElem?_take, if_pos (by omega)] at this
    simpa using this

theorem Try.info_bool : (Try.prog.info? 4).map (fun i => (i.zero, i.size, i.bytes)) = some (some (.bool false), 1, 1) := by kernel_rfl

/-- A number of the document's. -/
def BitsAt (w : World) (p : Option Addr) (n c N : Nat) : Prop := BRow w p n c (bitsOf N)
theorem BitsAt.below {w w' : World} {p : Option Addr} {n c N : Nat} (h : BitsAt w p n c N) (hb : Below w.heap.size w w') : BitsAt w' p n c N := BRow.below h hb

theorem bits_len {w : World} {q : Option Addr} {m d N : Nat} (k : BitsAt w q m d N) : m = blen N := by have := k.len; rwa [bitsOf_length] at this

/-- One as an answer, in new memory. -/
def GivesBits (N : Nat) (w : World) (e : Ending) (w' : World) : Prop := ∃ p n c, e = .returned (.slice p n c) ∧ BitsAt w' p n c N ∧ Below w.heap.size w w' ∧ New w.heap.size p

set_option maxHeartbeats 1000000 in
set_option maxRecDepth 100000 in
theorem small_calls (N : Nat) (w : World) (hN : N < 18446744073709551616) :
    Calls Try.prog 18 #[.int .u64 N] w (GivesBits N w) := by
  obtain ⟨i0, hi, hz0, hz1, hz2⟩ := info_parts Try.info_bool
  have h64 : blen N ≤ 64 := (blen_le N 64).2 hN
  have hown := World.ownsRow_made w (base := w.heap.size) (e := 4) (size := 1) #[] 0 (Nat.le_refl _) (by simp [maxLen]) (by simp)
  go_enter Try.func18, Try.ntmps18
  go_wp2
  go_loopw [0, 3] (fun u v wr => ∃ k x : Nat, k ≤ blen N ∧ Hid (N / 2 ^ k = x) ∧ u = .int .u64 x ∧ x < 18446744073709551616 ∧ wr.ownsRow w.heap.size 4 1 v k ((bitsUp N k).map Value.bool) ∧ Below w.heap.size w wr) (fun u _ _ => (intOf u).toNat)
  case atStart =>
    refine ⟨0, N, Nat.zero_le _, Lib.hid (by simp), rfl, hN, ?_, (Below.refl _ _).alloc (Nat.le_refl _) _⟩
    simpa [bitsUp] using hown
  case round =>
    obtain ⟨k, x, hk, hx, rfl, hx1, ho, hbw⟩ := hrel
    have hh : Hid (N / 2 ^ (k + 1) = x / 2) := Lib.hid (by rw [Nat.pow_succ, ← Nat.div_div_eq_div_mul, hx.out])
    have hbt : bit N k = ((x : Int) % 2 == 1) := by
      unfold bit; rw [hx.out, Bool.eq_iff_iff]; simp; omega
    have HB := Lib.hid hbt
    clear hbt
    go_wp2_with (at_builtin; refine wpList_append_own _ rfl _ _ 45 rfl w.heap.size 4 i0 (.bool false) 1 1 Try.underlying45 hi hz0 hz1 hz2 rfl (by decide) _ _ _ rfl (ho.alloc _) ⟨wr.heap.size, 0, none⟩ 1 1 [.bool ((x : Int) % 2 == 1)] rfl rfl ?c1 ?c2 ?c3 ?c4 ?c5 ?_)
    case c1 =>
      intro j u hj
      match j, hj with
      | 0, hj => simp at hj; subst hj; simp [Addr.add]
    case c2 => intro u hu; simp at hu; subst hu; rfl
    case c3 => unfold maxLen; omega
    case c4 => omega
    case c5 => have := hbw.size; simp; omega
    · intro v' w1 ho' hg _
      have hx0 : 0 < x := by assumption
      have hkl : k < blen N := blen_gt (by rw [hx.out]; exact hx0)
      have hbw1 : Below w.heap.size w w1 := (hbw.alloc hbw.size _).grown hg (by have := hbw.size; simp; omega) (fun j hj => (ho.lt j hj).1)
      have ho1 : w1.ownsRow w.heap.size 4 1 v' (k + 1) ((bitsUp N (k + 1)).map Value.bool) := by
        rw [bitsUp_succ, List.map_append, HB.out]; exact ho'
      clear ho' hg ho
      go_wp2
      go_roundw
      case rel => exact ⟨k + 1, x / 2, by omega, hh, by simp [Int.natCast_ediv], by omega, ho1, hbw1⟩
      case measure => simp [intOf]; omega
    · have hx0 : ¬ 0 < x := by assumption
      have hkl : k = blen N := blen_eq (by rw [hx.out]; omega) hk
      subst hkl
      obtain ⟨q, d, rfl, hrow, hq⟩ := BRow.of_owns ho
      go_ret
      exact ⟨q, blen N, d, rfl, hrow, hbw, hq⟩

end Go.Proofs.Ythpfpnialeoclaa
