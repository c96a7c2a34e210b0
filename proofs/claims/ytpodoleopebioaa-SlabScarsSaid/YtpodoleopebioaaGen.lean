/- What a row of integers is in memory, what words come to as a number, and small laws on them; the bytes that came in. Of no package of the program. -/
import Derived.Test.YtpodoleopebioaaRows
import Derived.WalkKit
import Derived.WalkSpells
import Derived.WalkLawsBesides
import Derived.ProofKit
import Derived.OpenShut
import Derived.Handy
import Derived.Lib.Hide
namespace Go.Proofs.Ytpodoleopebioaa
open Go Go.RowKit
set_option maxRecDepth 100000

/-- A row of integers that is read. -/
structure Row (w : World) (k : IntKind) (p : Option Addr) (n c : Nat) (xs : List Nat) : Prop where
  len : n = xs.length
  cap : n ≤ c
  max : c ≤ 9223372036854775807
  at_ : (p = none ∧ n = 0 ∧ c = 0) ∨ ∃ b off, p = some ⟨b, off, none⟩ ∧ b < w.heap.size ∧ ∀ (i x : Nat), xs[i]? = some x → w.cell? ⟨b, off + i, none⟩ = some (.int k (x : Int))

theorem Row.below {w w' : World} {k : IntKind} {p : Option Addr} {n c : Nat} {xs : List Nat} (h : Row w k p n c xs) (hb : Below w.heap.size w w') : Row w' k p n c xs := by
  refine ⟨h.len, h.cap, h.max, ?_⟩
  rcases h.at_ with h1 | ⟨b, off, h1, h2, h3⟩
  · exact .inl h1
  · refine .inr ⟨b, off, h1, Nat.lt_of_lt_of_le h2 hb.size, fun i x hx => ?_⟩
    rw [hb.cell (p := ⟨b, off + i, none⟩) h2]
    exact h3 i x hx

/-- The same row, in a world that is as the first one below a number that is above the row's block. -/
theorem Row.below' {w w1 w' : World} {k : IntKind} {p : Option Addr} {n c : Nat} {xs : List Nat} (h : Row w k p n c xs) (hb : Below w.heap.size w w1) {B : Nat} (hb' : Below B w1 w') (hB : w.heap.size ≤ B) : Row w' k p n c xs :=
  h.below (hb.trans (hb'.mono hB))

theorem Row.nil (w : World) (k : IntKind) : Row w k none 0 0 [] := ⟨rfl, Nat.le_refl _, by omega, .inl ⟨rfl, rfl, rfl⟩⟩

theorem Row.pos {w : World} {k : IntKind} {p : Option Addr} {n c : Nat} {xs : List Nat} (h : Row w k p n c xs) (hn : 0 < n) :
    ∃ b off, p = some ⟨b, off, none⟩ ∧ b < w.heap.size ∧ ∀ (i x : Nat), xs[i]? = some x → w.cell? ⟨b, off + i, none⟩ = some (.int k (x : Int)) := by
  rcases h.at_ with h1 | h1
  · omega
  · exact h1

/-- The first ones alone. -/
theorem Row.take {w : World} {k : IntKind} {p : Option Addr} {n c : Nat} {xs : List Nat} (h : Row w k p n c xs) (m : Nat) (hm : m ≤ n) : Row w k p m c (xs.take m) := by
  have hl := h.len
  refine ⟨by simp; omega, Nat.le_trans hm h.cap, h.max, ?_⟩
  rcases h.at_ with ⟨h1, h2, h3⟩ | ⟨b, off, h1, h2, h3⟩
  · exact .inl ⟨h1, by omega, h3⟩
  · refine .inr ⟨b, off, h1, h2, fun i x hx => h3 i x ?_⟩
    rw [List.getElem?_take] at hx
    split at hx
    · exact hx
    · cases hx

/-- Words below 2^32. -/
def Words (xs : List Nat) : Prop := ∀ x ∈ xs, x < 4294967296

/-- What words come to, the lowest first. -/
def val : List Nat → Nat
  | [] => 0
  | x :: xs => x + 4294967296 * val xs

/-- 2^32, so often. -/
def B32 (k : Nat) : Nat := 4294967296 ^ k

theorem B32_zero : B32 0 = 1 := rfl
theorem B32_succ (k : Nat) : B32 (k + 1) = 4294967296 * B32 k := by unfold B32; rw [Nat.pow_succ, Nat.mul_comm]
theorem B32_pos (k : Nat) : 0 < B32 k := Nat.pow_pos (by omega)

theorem val_append (xs ys : List Nat) : val (xs ++ ys) = val xs + B32 xs.length * val ys := by
  induction xs with
  | nil => simp [val, B32_zero]
  | cons x xs ih =>
    simp only [List.cons_append, val, ih, List.length_cons, B32_succ, Nat.mul_add, Nat.mul_assoc]
    omega

theorem val_snoc (xs : List Nat) (x : Nat) : val (xs ++ [x]) = val xs + B32 xs.length * x := by
  rw [val_append]; simp [val]

theorem val_zeros (n : Nat) : val (List.replicate n 0) = 0 := by
  induction n with
  | zero => rfl
  | succ n ih => simp [List.replicate_succ, val, ih]

theorem Words.lt {xs : List Nat} (h : Words xs) : val xs < B32 xs.length := by
  induction xs with
  | nil => simp [val, B32_zero]
  | cons x xs ih =>
    have h1 := ih fun y hy => h y (by simp [hy])
    have h2 := h x (by simp)
    simp only [val, List.length_cons, B32_succ]
    have : 4294967296 * val xs + 4294967296 ≤ 4294967296 * B32 xs.length := by
      have := Nat.mul_le_mul_left 4294967296 (Nat.succ_le_of_lt h1)
      simp only [Nat.succ_eq_add_one, Nat.mul_add, Nat.mul_one] at this
      exact this
    omega

theorem Words.nil : Words [] := by simp [Words]
theorem Words.append {xs ys : List Nat} (h : Words xs) (k : Words ys) : Words (xs ++ ys) := by
  intro x hx
  rcases List.mem_append.1 hx with h1 | h1
  · exact h x h1
  · exact k x h1
theorem Words.snoc {xs : List Nat} {x : Nat} (h : Words xs) (k : x < 4294967296) : Words (xs ++ [x]) := h.append (by intro y hy; simp at hy; omega)
theorem Words.take {xs : List Nat} (h : Words xs) (n : Nat) : Words (xs.take n) := fun x hx => h x (List.mem_of_mem_take hx)
theorem Words.drop {xs : List Nat} (h : Words xs) (n : Nat) : Words (xs.drop n) := fun x hx => h x (List.mem_of_mem_drop hx)
theorem Words.zeros (n : Nat) : Words (List.replicate n 0) := by intro x hx; have := (List.mem_replicate.1 hx).2; omega
theorem Words.get {xs : List Nat} (h : Words xs) (i : Nat) : xs.getD i 0 < 4294967296 := by
  rw [List.getD_eq_getElem?_getD]
  rcases Nat.lt_or_ge i xs.length with h1 | h1
  · simp [h1]; exact h _ (List.getElem_mem _)
  · simp [List.getElem?_eq_none h1]

theorem take_snoc_getD (xs : List Nat) (k : Nat) (h : k < xs.length) : xs.take (k + 1) = xs.take k ++ [xs.getD k 0] := by
  rw [List.take_succ_eq_append_getElem h]; simp [h]

theorem val_take_succ (xs : List Nat) (k : Nat) (h : k < xs.length) : val (xs.take (k + 1)) = val (xs.take k) + B32 k * xs.getD k 0 := by
  rw [take_snoc_getD xs k h, val_snoc]; simp [Nat.min_eq_left (Nat.le_of_lt h)]

/-- Beyond the end a word is 0. -/
theorem val_take_succ' (xs : List Nat) (k : Nat) : val (xs.take (k + 1)) = val (xs.take k) + B32 k * xs.getD k 0 := by
  rcases Nat.lt_or_ge k xs.length with h | h
  · exact val_take_succ xs k h
  · rw [List.take_of_length_le (by omega), List.take_of_length_le h]
    simp [List.getElem?_eq_none h]

/-- A block of the call's own: all that is in it. -/
def Blk (w : World) (g : Nat) (e : TypeId) (k : IntKind) (xs : List Nat) : Prop := w.heap[g]? = some (.cells (xs.map fun (x : Nat) => Value.int k x).toArray e (0, 0))

theorem Blk.lt {w : World} {g : Nat} {e : TypeId} {k : IntKind} {xs : List Nat} (h : Blk w g e k xs) : g < w.heap.size := (Array.getElem?_eq_some_iff.1 h).1

theorem Blk.cell {w : World} {g : Nat} {e : TypeId} {k : IntKind} {xs : List Nat} (h : Blk w g e k xs) {i x : Nat} (hx : xs[i]? = some x) : w.cell? ⟨g, i, none⟩ = some (.int k x) := by
  unfold Blk at h
  simp [World.cell?, h, hx]

theorem Blk.free {w : World} {g : Nat} {e : TypeId} {k : IntKind} {xs : List Nat} (h : Blk w g e k xs) (i : Nat) : w.frozen? ⟨g, i, none⟩ = false := by
  unfold Blk at h
  simp [World.frozen?, h]

theorem Blk.below {w w' : World} {g : Nat} {e : TypeId} {k : IntKind} {xs : List Nat} (h : Blk w g e k xs) {B : Nat} (hb : Below B w w') (hg : g < B) : Blk w' g e k xs := by
  unfold Blk at *
  rw [hb.block g hg]; exact h

theorem Blk.set {w : World} {g : Nat} {e : TypeId} {k : IntKind} {xs : List Nat} (h : Blk w g e k xs) (i x : Nat) : Blk (w.setCell ⟨g, i, none⟩ (.int k x)) g e k (xs.set i x) := by
  unfold Blk at *
  simp only [World.setCell, Array.getElem?_modify, if_true, h, Option.map_some]
  simp [List.map_set]

/-- .. in a world in which another block is written. -/
theorem Blk.other {w : World} {g : Nat} {e : TypeId} {k : IntKind} {xs : List Nat} (h : Blk w g e k xs) {a : Addr} (ha : g ≠ a.block) (u : Value) : Blk (w.setCell a u) g e k xs := by
  unfold Blk at *
  rw [Below.heap_setCell _ _ _ _ ha]; exact h

/-- .. in a world with one block more. -/
theorem Blk.alloc {w : World} {g : Nat} {e : TypeId} {k : IntKind} {xs : List Nat} (h : Blk w g e k xs) (o : Obj) : Blk (w.alloc o) g e k xs :=
  h.below ((Below.refl w.heap.size w).alloc (Nat.le_refl _) o) h.lt

theorem ints_one (k : IntKind) (xs : List Nat) : ((xs.map fun (x : Nat) => Value.int k x).toArray).all (·.oneCell') = true := by
  rw [List.all_toArray, List.all_eq_true]
  intro v hv
  obtain ⟨x, _, rfl⟩ := List.mem_map.1 hv
  rfl

theorem Blk.row {w : World} {g : Nat} {e : TypeId} {k : IntKind} {xs : List Nat} (h : Blk w g e k xs) {n c : Nat} (hn : n = xs.length) (hc : n ≤ c) (hm : c ≤ 9223372036854775807) : Row w k (some ⟨g, 0, none⟩) n c xs :=
  ⟨hn, hc, hm, .inr ⟨g, 0, rfl, h.lt, fun i x hx => by rw [Nat.zero_add]; exact h.cell hx⟩⟩

/-- Noughts, as cells. -/
def zeros (k : IntKind) (n : Nat) : Array Value := ((List.replicate n 0).map fun (x : Nat) => Value.int k x).toArray

theorem zeros_eq (k : IntKind) (n : Nat) : madeCells #[Value.int k 0] n = zeros k n := by
  unfold zeros
  rw [List.map_replicate]
  have h := toList_madeCells_one (Value.int k 0) n
  rw [← Array.toArray_toList (xs := madeCells #[Value.int k 0] n), h]
  rfl

theorem Blk.zeros (w : World) (e : TypeId) (k : IntKind) (n : Nat) : Blk (w.alloc (.cells (zeros k n) e)) w.heap.size e k (List.replicate n 0) := by
  unfold Blk
  exact heap_alloc_new w _

def Bytes8 (xs : List Nat) : Prop := ∀ x ∈ xs, x < 256

theorem Bytes8.take {xs : List Nat} (h : Bytes8 xs) (n : Nat) : Bytes8 (xs.take n) := fun x hx => h x (List.mem_of_mem_take hx)
theorem Bytes8.reverse {xs : List Nat} (h : Bytes8 xs) : Bytes8 xs.reverse := fun x hx => h x (List.mem_reverse.1 hx)
theorem Bytes8.get {xs : List Nat} (h : Bytes8 xs) (i : Nat) : xs.getD i 0 < 256 := by
  rw [List.getD_eq_getElem?_getD]
  rcases Nat.lt_or_ge i xs.length with h1 | h1
  · simp [h1]; exact h _ (List.getElem_mem _)
  · simp [List.getElem?_eq_none h1]

theorem Try.info_u8 : (Try.prog.info? 5).map (fun i => (i.zero, i.size, i.bytes)) = some (some (.int .u8 0), 1, 1) := by kernel_rfl

/-- make([]byte, n) -/
theorem make_u8 (n : Nat) (h : n ≤ 4294967296) (w : World) : (Instr.makeSlice 26 (.int .i64 n) (.int .i64 n)).run Try.prog w =
    .ok (.slice (some ⟨w.heap.size, 0, none⟩) n n) (w.alloc (.cells (zeros .u8 n) 5)) := by
  obtain ⟨i, hi, hz, hs, hb⟩ := info_parts Try.info_u8
  have := run_make (P := Try.prog) w 26 5 i (.int .u8 0) Try.underlying26 hi hz .i64 .i64 n n (by omega) (Int.le_refl _) (by rw [hb]; omega) (by omega)
  simp only [Int.toNat_natCast, hs, Nat.mul_one] at this
  rw [this, ← zeros_eq]
  rfl

/-- From a world of the call's own to what is below. -/
theorem bcell {B : Nat} {W w1 : World} (hb : Below B W w1) : (∀ b o, b < B → w1.cell? ⟨b, o, none⟩ = W.cell? ⟨b, o, none⟩) ∧ (∀ b o, b < B → w1.frozen? ⟨b, o, none⟩ = W.frozen? ⟨b, o, none⟩) :=
  ⟨fun b o h => hb.cell (p := ⟨b, o, none⟩) h, fun b o h => hb.frozen (p := ⟨b, o, none⟩) h⟩

/-- A row in a world in which another block is written. -/
theorem Row.setCell {w : World} {k : IntKind} {p : Option Addr} {n c : Nat} {xs : List Nat} (h : Row w k p n c xs) {a : Addr} (ha : ∀ q, p = some q → q.block ≠ a.block) (u : Value) : Row (w.setCell a u) k p n c xs := by
  refine ⟨h.len, h.cap, h.max, ?_⟩
  rcases h.at_ with h1 | ⟨b, off, h1, h2, h3⟩
  · exact .inl h1
  · refine .inr ⟨b, off, h1, by simpa using h2, fun i x hx => ?_⟩
    have hne := ha _ h1
    rw [World.cell?_setCell_other _ _ _ _ (fun e => hne (by rw [e]))]
    exact h3 i x hx

/-- In new memory. -/
def New (B : Nat) (p : Option Addr) : Prop := ∀ q, p = some q → B ≤ q.block
theorem New.none (B : Nat) : New B none := fun _ h => by cases h
theorem New.mono {B B' : Nat} {p : Option Addr} (h : New B p) (hb : B' ≤ B) : New B' p := fun q hq => Nat.le_trans hb (h q hq)
theorem New.ne {B : Nat} {p : Option Addr} (h : New B p) {b : Nat} (hb : b < B) : ∀ q, p = some q → q.block ≠ b := fun q hq => by have := h q hq; omega

/-- A row of integers that came in: if it has none, its place may be any. -/
structure RowIn (w : World) (k : IntKind) (p : Option Addr) (n c : Nat) (xs : List Nat) : Prop where
  len : n = xs.length
  cap : n ≤ c
  max : c ≤ 9223372036854775807
  row : 0 < n → Row w k p n c xs

theorem RowIn.below {w w' : World} {k : IntKind} {p : Option Addr} {n c : Nat} {xs : List Nat} (h : RowIn w k p n c xs) (hb : Below w.heap.size w w') : RowIn w' k p n c xs :=
  ⟨h.len, h.cap, h.max, fun h0 => (h.row h0).below hb⟩
theorem RowIn.take {w : World} {k : IntKind} {p : Option Addr} {n c : Nat} {xs : List Nat} (h : RowIn w k p n c xs) (m : Nat) (hm : m ≤ n) : RowIn w k p m c (xs.take m) :=
  ⟨by have := h.len; simp; omega, Nat.le_trans hm h.cap, h.max, fun h0 => (h.row (by omega)).take m hm⟩

/-- The bytes. -/
def bytesIn (zs : List Int) (n : Nat) : List Nat := (zs.take n).map Int.toNat

theorem wf_u8 {n : Int} (h : (Lit.int .u8 n).wf = true) : 0 ≤ n ∧ n < 256 := by
  simp only [Lit.wf, Bool.and_eq_true, decide_eq_true_eq] at h
  have h1 : IntKind.u8.min = 0 := by decide
  have h2 : IntKind.u8.max = 255 := by decide
  omega

theorem wf_u64 {n : Int} (h : (Lit.int .u64 n).wf = true) : 0 ≤ n ∧ n < 18446744073709551616 := by
  simp only [Lit.wf, Bool.and_eq_true, decide_eq_true_eq] at h
  have h1 : IntKind.u64.min = 0 := by decide
  have h2 : IntKind.u64.max = 18446744073709551615 := by decide
  omega

theorem wf_i64 {n : Int} (h : (Lit.int .i64 n).wf = true) : -9223372036854775808 ≤ n ∧ n ≤ 9223372036854775807 := by
  simp only [Lit.wf, Bool.and_eq_true, decide_eq_true_eq] at h
  have h1 : IntKind.i64.min = -9223372036854775808 := by decide
  have h2 : IntKind.i64.max = 9223372036854775807 := by decide
  omega

theorem add_plain (b off i : Nat) : (⟨b, off, none⟩ : Addr).add i = ⟨b, off + i, none⟩ := by unfold Addr.add; split <;> simp_all

theorem rowIn_of {w : World} {a : Option Addr} {len cap : Nat} {zs : List Int}
    (h : (a = none ∧ len = 0 ∧ cap = 0 ∧ zs = []) ∨ ∃ x, a = some x ∧ len ≤ cap ∧ cap ≤ maxLen ∧ zs.length = cap ∧ (∀ i, i < zs.length → w.cell? (x.add i) = some (.int .u8 (zs.getD i 0))) ∧ ∀ n ∈ zs, (Lit.int .u8 n).wf = true) :
    RowIn w .u8 a len cap (bytesIn zs len) ∧ Bytes8 (bytesIn zs len) := by
  rcases h with ⟨rfl, rfl, rfl, rfl⟩ | ⟨x, rfl, hl, hm, hz, hc, hw⟩
  · refine ⟨⟨by simp [bytesIn], Nat.le_refl _, by omega, fun h => absurd h (by omega)⟩, by simp [bytesIn, Bytes8]⟩
  · have hm' : cap ≤ 9223372036854775807 := by simpa [maxLen] using hm
    have hlen : len = (bytesIn zs len).length := by simp [bytesIn]; omega
    refine ⟨⟨hlen, hl, hm', fun h0 => ?_⟩, ?_⟩
    · obtain ⟨b, off, spot⟩ := x
      have h1 := hc 0 (by omega)
      have hspot : spot = none := by simpa [Addr.add] using World.cell?_spot h1
      subst hspot
      have hadd : ∀ i, (⟨b, off, none⟩ : Addr).add i = ⟨b, off + i, none⟩ := add_plain b off
      refine ⟨hlen, hl, hm', .inr ⟨b, off, rfl, ?_, fun i y hy => ?_⟩⟩
      · rw [hadd] at h1
        unfold World.cell? at h1
        rcases Nat.lt_or_ge b w.heap.size with k | k
        · exact k
        · simp [Array.getElem?_eq_none k] at h1
      · simp only [bytesIn, List.getElem?_map, List.getElem?_take] at hy
        split at hy
        · rename_i hi
          have hi2 : i < zs.length := by omega
          rw [List.getElem?_eq_getElem hi2] at hy
          simp only [Option.map_some, Option.some.injEq] at hy
          have := wf_u8 (hw zs[i] (List.getElem_mem _))
          rw [← hadd, hc i hi2, ← hy, List.getD_eq_getElem?_getD, List.getElem?_eq_getElem hi2]
          simp only [Option.getD_some]
          rw [Int.toNat_of_nonneg this.1]
        · simp at hy
    · intro y hy
      simp only [bytesIn, List.mem_map] at hy
      obtain ⟨n, hn, rfl⟩ := hy
      have := wf_u8 (hw n (List.mem_of_mem_take hn))
      omega

theorem cellsIn_of {w : World} {a : Option Addr} {len cap : Nat} {zs : List Int}
    (h : (a = none ∧ len = 0 ∧ cap = 0 ∧ zs = []) ∨ ∃ x, a = some x ∧ len ≤ cap ∧ cap ≤ maxLen ∧ zs.length = cap ∧ (∀ i, i < zs.length → w.cell? (x.add i) = some (.int .u8 (zs.getD i 0))) ∧ ∀ n ∈ zs, (Lit.int .u8 n).wf = true) :
    (a = none → cap = 0) ∧ ∀ x, a = some x → ∀ i y, (bytesIn zs len)[i]? = some y → w.cell? (x.add i) = some (.int .u8 (y : Nat)) := by
  rcases h with ⟨rfl, rfl, rfl, rfl⟩ | ⟨x, rfl, hl, hm, hz, hc, hw⟩
  · exact ⟨fun _ => rfl, fun x hx => by cases hx⟩
  · refine ⟨(fun h => by cases h), fun x' hx i y hy => ?_⟩
    cases hx
    simp only [bytesIn, List.getElem?_map, List.getElem?_take] at hy
    split at hy
    · rename_i hi
      have hi2 : i < zs.length := by omega
      rw [List.getElem?_eq_getElem hi2] at hy
      simp only [Option.map_some, Option.some.injEq] at hy
      have := wf_u8 (hw zs[i] (List.getElem_mem _))
      rw [hc i hi2, ← hy, List.getD_eq_getElem?_getD, List.getElem?_eq_getElem hi2]
      simp only [Option.getD_some]
      rw [Int.toNat_of_nonneg this.1]
    · simp at hy

end Go.Proofs.Ytpodoleopebioaa
