/- Contracts as the laws use them. -/
import Derived.Test.YtceihmiiapnmnaaNatH
import Derived.Test.YtceihmiiapnmnaaNatD
import Derived.Lib.Tables
import Derived.Lib.BitFns
import Derived.Test.YtceihmiiapnmnaaDocW
import Derived.Test.YtceihmiiapnmnaaNatN
import Derived.Test.YtceihmiiapnmnaaGen
import Derived.Test.YtceihmiiapnmnaaNatI
import Derived.Test.YtceihmiiapnmnaaNatE
import Derived.Test.YtceihmiiapnmnaaNatG
import Derived.Test.YtceihmiiapnmnaaFlowS
import Derived.Laws.BytesArg
import Derived.Laws.BytesString
import Derived.WideShapes
/-! How many bits a number has. -/
namespace Go.Proofs.Ytceihmiiapnmnaa
open Go Go.RowKit Go.Proofs.Ytceihmiiapnmnaa.Flow
set_option maxRecDepth 100000

set_option maxRecDepth 100000 in
theorem len8tab_lit : (⟨((([0, 1, 2, 2, 3, 3, 3, 3, 4, 4, 4, 4, 4, 4, 4, 4, 5, 5, 5, 5, 5, 5, 5, 5, 5, 5, 5, 5, 5, 5, 5, 5, 6, 6, 6, 6, 6, 6, 6, 6, 6, 6, 6, 6, 6, 6, 6, 6, 6, 6, 6, 6, 6, 6, 6, 6, 6, 6, 6, 6, 6, 6, 6, 6] : List UInt8).append [7, 7, 7, 7, 7, 7, 7, 7, 7, 7, 7, 7, 7, 7, 7, 7, 7, 7, 7, 7, 7, 7, 7, 7, 7, 7, 7, 7, 7, 7, 7, 7, 7, 7, 7, 7, 7, 7, 7, 7, 7, 7, 7, 7, 7, 7, 7, 7, 7, 7, 7, 7, 7, 7, 7, 7, 7, 7, 7, 7, 7, 7, 7, 7]).append (([8, 8, 8, 8, 8, 8, 8, 8, 8, 8, 8, 8, 8, 8, 8, 8, 8, 8, 8, 8, 8, 8, 8, 8, 8, 8, 8, 8, 8, 8, 8, 8, 8, 8, 8, 8, 8, 8, 8, 8, 8, 8, 8, 8, 8, 8, 8, 8, 8, 8, 8, 8, 8, 8, 8, 8, 8, 8, 8, 8, 8, 8, 8, 8] : List UInt8).append [8, 8, 8, 8, 8, 8, 8, 8, 8, 8, 8, 8, 8, 8, 8, 8, 8, 8, 8, 8, 8, 8, 8, 8, 8, 8, 8, 8, 8, 8, 8, 8, 8, 8, 8, 8, 8, 8, 8, 8, 8, 8, 8, 8, 8, 8, 8, 8, 8, 8, 8, 8, 8, 8, 8, 8, 8, 8, 8, 8, 8, 8, 8, 8])).toArray⟩ : ByteArray) = Lib.len8tab := by kernel_rfl





theorem len8_blen : ∀ n : Fin 256, Lib.len8 (n.val : Int) = (blen n.val : Int) := by decide +kernel

theorem tab_get (y : Int) (h0 : 0 ≤ y) (h1 : y ≤ 255) (h : y.toNat < Lib.len8tab.size) : ((Lib.len8tab[y.toNat]'h).toNat : Int) = (blen y.toNat : Nat) := by
  have e := len8_blen ⟨y.toNat, by omega⟩
  simp only [Int.toNat_of_nonneg h0] at e
  rw [← e]
  unfold Lib.len8
  rw [getElem?_pos Lib.len8tab y.toNat h]
  rfl

theorem wrap_blen (k : Nat) (m n : Nat) (hk : k ≤ 24) (hm : blen m ≤ 64) (e : blen n = k + blen m) : wrap64 ((k : Int) + wrap64 (blen m : Nat)) = (blen n : Nat) := by
  rw [e, IntWalk.wrap64_in (blen m : Nat) ⟨by omega, by omega⟩, IntWalk.wrap64_in _ ⟨by omega, by omega⟩]; omega

theorem wrap_blen0 (m : Nat) (hm : blen m ≤ 64) : wrap64 (wrap64 (blen m : Nat)) = (blen m : Nat) := by
  rw [IntWalk.wrap64_in (blen m : Nat) ⟨by omega, by omega⟩, IntWalk.wrap64_in _ ⟨by omega, by omega⟩]


set_option maxRecDepth 100000 in
set_option maxHeartbeats 1000000 in
theorem len32_int (x : Int) (w : World) (h0 : 0 ≤ x) (hx : x ≤ 4294967295) :
    Calls Try.prog 74 #[.int .u32 x] w fun e w' => e = .returned (.int .i64 (blen x.toNat : Nat)) ∧ w = w' := by
  have hs : Lib.len8tab.size = 256 := Lib.len8tab_size
  go_enter Try.func74, Try.ntmps74
  rw [len8tab_lit]
  go_wp2
  all_goals first
    | (go_ret; refine ⟨congrArg Ending.returned (congrArg (Value.int IntKind.i64) ?_), rfl⟩)
    | (exfalso; omega)
  all_goals first
    | (rw [tab_get (x / 65536 / 256) (by omega) (by omega)]; exact wrap_blen 24 _ _ (by omega) (blen_byte (by omega)) (by rw [show (x / 65536 / 256).toNat = x.toNat / 2 ^ 24 by omega]; exact blen_shift _ _ (by omega)))
    | (rw [tab_get (x / 65536) (by omega) (by omega)]; exact wrap_blen 16 _ _ (by omega) (blen_byte (by omega)) (by rw [show (x / 65536).toNat = x.toNat / 2 ^ 16 by omega]; exact blen_shift _ _ (by omega)))
    | (rw [tab_get (x / 256) (by omega) (by omega)]; exact wrap_blen 8 _ _ (by omega) (blen_byte (by omega)) (by rw [show (x / 256).toNat = x.toNat / 2 ^ 8 by omega]; exact blen_shift _ _ (by omega)))
    | (rw [tab_get x (by omega) (by omega)]; exact wrap_blen0 _ (blen_byte (by omega)))

theorem len32_calls (x : Nat) (w : World) (hx : x < 4294967296) :
    Calls Try.prog 74 #[.int .u32 x] w fun e w' => e = .returned (.int .i64 (blen x : Nat)) ∧ w = w' := by
  have := len32_int x w (by omega) (by omega)
  simpa using this

/-- A number's bits are its highest word's, and 32 for each word below. -/
theorem blen_words {ws : List Nat} {x : Nat} (hw : Words (ws ++ [x])) (hx : x ≠ 0) : blen (val (ws ++ [x])) = 32 * ws.length + blen x := by
  rw [val_snoc]
  have hb : B32 ws.length = 2 ^ (32 * ws.length) := by unfold B32; rw [show (4294967296 : Nat) = 2 ^ 32 from rfl, ← Nat.pow_mul]
  have h1 : val ws < B32 ws.length := Words.lt fun y hy => hw y (by simp [hy])
  have hd : (val ws + B32 ws.length * x) / 2 ^ (32 * ws.length) = x := by
    rw [← hb, Nat.add_mul_div_left _ _ (B32_pos _), Nat.div_eq_of_lt h1, Nat.zero_add]
  have := blen_shift (val ws + B32 ws.length * x) (32 * ws.length) (by rw [hd]; omega)
  rw [hd] at this
  exact this

set_option maxHeartbeats 1000000 in
theorem bits_calls (w : World) (p : Option Addr) (n c N : Nat) (h : NatAt w p n c N) (hn : n < 1000000) :
    Calls Try.prog 50 #[.agg #[.slice p n c]] w fun e w' => e = .returned (.int .i64 (blen N : Nat)) ∧ Below w.heap.size w w' := by
  have hbx := Box1.mk1 w (.slice p n c) 43
  by_cases h0 : n = 0
  · have hN : N = 0 := h.zero.1 h0
    subst hN
    have hd : decide (n = 0) = true := by simpa using h0
    clear h0
    go_enter Try.func50, Try.ntmps50
    go_wp2_with fail
    refine (zero_calls _ p n c).mono ?_
    rintro e w1 ⟨rfl, hb1⟩
    go_wp2
    go_ret
    exact ⟨rfl, (hbx.later hb1).bel⟩
  · obtain ⟨m, rfl⟩ : ∃ m, n = m + 1 := ⟨n - 1, by omega⟩
    obtain ⟨ws, h1, h2, h3, h4⟩ := h.ex
    have hl := h1.len
    obtain ⟨xs, x, rfl⟩ : ∃ xs x, ws = xs ++ [x] := by
      rcases List.eq_nil_or_concat ws with rfl | ⟨xs, x, h⟩
      · simp at hl
      · exact ⟨xs, x, by simpa using h⟩
    have hxm : xs.length = m := by simp at hl; omega
    have hx0 : x ≠ 0 := by simpa using h3
    have hx1 : x < 4294967296 := h2 x (by simp)
    have hbl := blen_words h2 hx0
    rw [h4, hxm] at hbl
    have HBL := Lib.hid hbl
    have hxb : blen x ≤ 32 := by rw [blen_le]; exact hx1
    obtain ⟨b, off, rfl, hb, hc⟩ := h1.pos (by omega)
    have hci : ∀ w', Below w.heap.size w w' → w'.cell? ⟨b, off + m, none⟩ = some (.int .u32 (x : Nat)) := fun w' hb' => by
      rw [(bcell hb').1 _ _ hb]
      exact hc m x (by rw [← hxm]; simp)
    have hd : decide (m + 1 = 0) = false := by simp
    clear hc hl h4 hbl hxm
    go_enter Try.func50, Try.ntmps50
    go_wp2_with fail
    refine (zero_calls _ _ (m + 1) c).mono ?_
    rintro e w1 ⟨rfl, hb1⟩
    have hbx1 := hbx.later hb1
    have c0 := hbx1.c0
    have hcx := hci w1 hbx1.bel
    clear hci
    go_wp2_with fail
    refine (len32_calls x _ hx1).mono ?_
    rintro e w2 ⟨rfl, rfl⟩
    go_wp2
    go_ret
    refine ⟨?_, hbx1.bel⟩
    rw [HBL.out]
    exact congrArg (fun z => Ending.returned (.int .i64 z)) (by omega)

end Go.Proofs.Ytceihmiiapnmnaa

/-! A number's fewest bytes. -/
/-! A number's bytes. -/
namespace Go.Proofs.Ytceihmiiapnmnaa
open Go Go.RowKit Go.Proofs.Ytceihmiiapnmnaa.Flow

/-- So many bytes, the lowest first. -/
def leOf (N n : Nat) : List Nat := (List.range n).map fun i => N / B8 i % 256
/-- So many bytes, the highest first. -/
def beOf (N n : Nat) : List Nat := (leOf N n).reverse
/-- How many bytes it needs. -/
def bsize (N : Nat) : Nat := (blen N + 7) / 8

end Go.Proofs.Ytceihmiiapnmnaa

namespace Go.Proofs.Ytceihmiiapnmnaa
open Go Go.RowKit Go.Proofs.Ytceihmiiapnmnaa.Flow

/-- A row of bytes in new memory. -/
def BytesVal (bs : List Nat) (B : Nat) (v : Value) (w : World) : Prop := ∃ q n d, v = .slice q n d ∧ Row w .u8 q n d bs ∧ New B q
theorem BytesVal.below {bs : List Nat} {B : Nat} {v : Value} {w w' : World} (h : BytesVal bs B v w) (hb : Below w.heap.size w w') : BytesVal bs B v w' :=
  let ⟨q, n, d, h1, h2, h3⟩ := h
  ⟨q, n, d, h1, h2.below hb, h3⟩


end Go.Proofs.Ytceihmiiapnmnaa

namespace Go.Proofs.Ytceihmiiapnmnaa
open Go Go.RowKit Go.Proofs.Ytceihmiiapnmnaa.Flow

/-- A number below so many words, as a value. -/
def Fit (e N : Nat) (v : Value) (w : World) : Prop := ∃ p n c, v = .agg #[.slice p n c] ∧ NatAt w p n c N ∧ N < B32 e
theorem Fit.below {e N : Nat} {v : Value} {w w' : World} (h : Fit e N v w) (hb : Below w.heap.size w w') : Fit e N v w' :=
  let ⟨p, n, c, h1, h2, h3⟩ := h
  ⟨p, n, c, h1, h2.below hb, h3⟩
theorem Fit.of {e N p n c} {w : World} (h : NatAt w p n c N) (hN : N < B32 e) : Fit e N (.agg #[.slice p n c]) w := ⟨p, n, c, rfl, h, hN⟩
theorem Fit.lim {e N : Nat} {v : Value} {w : World} (h : Fit e N v w) : N < B32 e := let ⟨_, _, _, _, _, h3⟩ := h; h3

theorem lim_add {e f N M : Nat} (h : N < B32 e) (k : M < B32 f) : N + M < B32 (e + f + 1) := by
  have h1 : B32 e ≤ B32 (e + f) := B32_mono (by omega)
  have h2 : B32 f ≤ B32 (e + f) := B32_mono (by omega)
  rw [B32_succ]; omega
theorem lim_mul {e f N M : Nat} (h : N < B32 e) (k : M < B32 f) : N * M < B32 (e + f) := by
  rw [B32_add]
  exact Nat.mul_lt_mul'' h k

theorem add_fit {w : World} {v u : Value} {e f N M : Nat} (h : Fit e N v w) (k : Fit f M u w) (he : e ≤ 900000) (hf : f ≤ 900000) :
    Calls Try.prog 57 #[v, u] w fun en w' => ∃ x, en = .returned x ∧ Fit (e + f + 1) (N + M) x w' ∧ Below w.heap.size w w' := by
  obtain ⟨p, n, c, rfl, h1, h2⟩ := h
  obtain ⟨q, m, d, rfl, k1, k2⟩ := k
  have l1 := h1.len_le h2
  have l2 := k1.len_le k2
  refine (add_calls w p n c N q m d M h1 k1 (by omega) (by omega)).mono ?_
  rintro en w' ⟨r, l, g, rfl, hr, hb, _⟩
  exact ⟨_, rfl, Fit.of hr (lim_add h2 k2), hb⟩

theorem mul_fit {w : World} {v u : Value} {e f N M : Nat} (h : Fit e N v w) (k : Fit f M u w) (he : e ≤ 900000) (hf : f ≤ 900000) :
    Calls Try.prog 21 #[v, u] w fun en w' => ∃ x, en = .returned x ∧ Fit (e + f) (N * M) x w' ∧ Below w.heap.size w w' := by
  obtain ⟨p, n, c, rfl, h1, h2⟩ := h
  obtain ⟨q, m, d, rfl, k1, k2⟩ := k
  have l1 := h1.len_le h2
  have l2 := k1.len_le k2
  refine (mul_calls w p n c N q m d M h1 k1 (by omega) (by omega)).mono ?_
  rintro en w' ⟨r, l, g, rfl, hr, hb, _⟩
  exact ⟨_, rfl, Fit.of hr (lim_mul h2 k2), hb⟩

theorem cmp_fit {w : World} {v u : Value} {e f N M : Nat} (h : Fit e N v w) (k : Fit f M u w) (he : e ≤ 900000) (hf : f ≤ 900000) :
    Calls Try.prog 27 #[v, u] w fun en w' => ∃ x, en = .returned x ∧ x = .int .i64 (cmpI N M) ∧ Below w.heap.size w w' := by
  obtain ⟨p, n, c, rfl, h1, h2⟩ := h
  obtain ⟨q, m, d, rfl, k1, k2⟩ := k
  have l1 := h1.len_le h2
  have l2 := k1.len_le k2
  refine (cmp_calls w p q n c N m d M h1 k1 (by omega) (by omega)).mono ?_
  rintro en w' ⟨rfl, hb⟩
  exact ⟨_, rfl, rfl, hb⟩

theorem sub_fit {w : World} {v u : Value} {e f N M : Nat} (h : Fit e N v w) (k : Fit f M u w) (he : e ≤ 900000) (hf : f ≤ 900000) :
    Calls Try.prog 31 #[v, u] w fun en w' => ∃ x, en = .returned (.tuple #[x, .bool (decide (M ≤ N))]) ∧ Fit e (N - M) x w' ∧ Below w.heap.size w w' := by
  obtain ⟨p, n, c, rfl, h1, h2⟩ := h
  obtain ⟨q, m, d, rfl, k1, k2⟩ := k
  have l1 := h1.len_le h2
  have l2 := k1.len_le k2
  refine (sub_calls w p n c N q m d M h1 k1 (by omega) (by omega)).mono ?_
  rintro en w' ⟨r, l, g, rfl, hr, hb, _⟩
  exact ⟨_, rfl, Fit.of hr (by omega), hb⟩

theorem cmpI_self (N : Nat) : cmpI N N = 0 := by simp [cmpI]

/-- Cells that are kept. -/
structure Cells (w w' : World) (l : List (Addr × Value)) : Prop where
  bel : Below w.heap.size w w'
  lt : ∀ x ∈ l, x.1.block < w.heap.size
  at_ : ∀ x ∈ l, w'.cell? x.1 = some x.2

theorem Cells.later {w w' w1 : World} {l : List (Addr × Value)} (h : Cells w w' l) (hb : Below w'.heap.size w' w1) : Cells w w1 l :=
  ⟨h.bel.trans (hb.mono h.bel.size), h.lt, fun x hx => by
    have h1 := h.lt x hx
    have h2 := h.bel.size
    rw [hb.cell (p := x.1) (by omega)]; exact h.at_ x hx⟩

theorem Cells.start {w w' : World} {l : List (Addr × Value)} (hb : Below w.heap.size w w') (h1 : ∀ x ∈ l, x.1.block < w.heap.size) (h2 : ∀ x ∈ l, w.cell? x.1 = some x.2) : Cells w w' l :=
  ⟨hb, h1, fun x hx => by rw [hb.cell (p := x.1) (h1 x hx)]; exact h2 x hx⟩

/-- How a region that stores into a box goes on. -/
structure Keep (B : Nat) (w w' : World) : Prop where
  bel : Below B w w'
  nat : ∀ p n c N, NatAt w p n c N → NatAt w' p n c N

theorem Keep.of {B : Nat} {w w' : World} (h : Below w.heap.size w w') (hB : B ≤ w.heap.size) : Keep B w w' := ⟨h.mono hB, fun _ _ _ _ k => k.below h⟩
theorem Fit.keep {e N B : Nat} {v : Value} {w w' : World} (h : Fit e N v w) (k : Keep B w w') : Fit e N v w' :=
  let ⟨p, n, c, h1, h2, h3⟩ := h
  ⟨p, n, c, h1, k.nat _ _ _ _ h2, h3⟩

/-- A box of a number. -/
def NatBox (w : World) (b : Nat) (u : Value) : Prop := w.heap[b]? = some (.cells #[u] 43 (0, 0))
theorem NatBox.below {w w' : World} {b B : Nat} {u : Value} (h : NatBox w b u) (hb : Below B w w') (hB : b < B) : NatBox w' b u := by
  unfold NatBox at *; rw [hb.block b hB]; exact h
theorem NatBox.cell {w : World} {b : Nat} {u : Value} (h : NatBox w b u) : w.cell? ⟨b, 0, none⟩ = some u := by
  unfold NatBox at h; simp [World.cell?, h]
theorem NatBox.free {w : World} {b : Nat} {u : Value} (h : NatBox w b u) : w.frozen? ⟨b, 0, none⟩ = false := by
  unfold NatBox at h; simp [World.frozen?, h]
theorem NatBox.lt {w : World} {b : Nat} {u : Value} (h : NatBox w b u) : b < w.heap.size := (Array.getElem?_eq_some_iff.1 h).1
theorem NatBox.set {w : World} {b : Nat} {u : Value} (h : NatBox w b u) (v : Value) : NatBox (w.setCell ⟨b, 0, none⟩ v) b v := by
  unfold NatBox at *
  simp [World.setCell, Array.getElem?_modify, h]
theorem NatBox.made (w : World) (u : Value) : NatBox (w.alloc (.cells #[u] 43)) w.heap.size u := by
  show (w.heap.push _)[w.heap.size]? = _
  simp

theorem NatAt.store {w : World} {p : Option Addr} {n c N b m d : Nat} {q : Option Addr} (h : NatAt w p n c N) (hb : NatBox w b (.slice q m d)) (v : Value) : NatAt (w.setCell ⟨b, 0, none⟩ v) p n c N := by
  obtain ⟨ws, r1, r2, r3, r4⟩ := h.ex
  rcases Nat.eq_zero_or_pos n with h0 | h0
  · refine ⟨ws, ⟨r1.len, r1.cap, r1.max, ?_⟩, r2, r3, r4⟩
    rcases r1.at_ with k | ⟨b', off, k1, k2, _⟩
    · exact .inl k
    · refine .inr ⟨b', off, k1, by simpa using k2, fun i x hx => ?_⟩
      have : ws = [] := List.eq_nil_of_length_eq_zero (by rw [← r1.len]; exact h0)
      rw [this] at hx; cases hx
  · refine h.setCell (a := ⟨b, 0, none⟩) ?_ v
    intro a ha hab
    obtain ⟨b', off, k1, k2, k3⟩ := r1.pos h0
    rw [k1] at ha; cases ha
    have hbb : b' = b := hab
    subst hbb
    have h1 := k3 0 (ws.getD 0 0) (by rw [List.getD_eq_getElem?_getD]; simp [show 0 < ws.length by rw [← r1.len]; exact h0])
    unfold NatBox at hb
    simp only [World.cell?, hb, Nat.add_zero] at h1
    cases off with
    | zero => simp at h1
    | succ k => simp at h1

theorem Keep.store {B : Nat} {w : World} {b m d : Nat} {q : Option Addr} (hb : NatBox w b (.slice q m d)) (hB : B ≤ b) (v : Value) : Keep B w (w.setCell ⟨b, 0, none⟩ v) :=
  ⟨(Below.refl _ _).setCell hB _, fun _ _ _ _ k => k.store hb v⟩

end Go.Proofs.Ytceihmiiapnmnaa
