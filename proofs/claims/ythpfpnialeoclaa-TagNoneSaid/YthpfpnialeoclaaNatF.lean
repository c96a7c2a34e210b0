/- Words, so often, added to others. -/
import Derived.Test.YthpfpnialeoclaaNatB
namespace Go.Proofs.Ythpfpnialeoclaa
open Go Go.RowKit

/-- The words of a product that is added, so far. -/
structure MulSt (W X : List Nat) (t k : Nat) (S : List Nat) (cy : Nat) : Prop where
  len : S.length = k
  words : Words S
  carry : cy < 4294967296
  eq : val S + B32 k * cy = val (W.take k) * t + val (X.take k)

theorem MulSt.start (W X : List Nat) (t : Nat) : MulSt W X t 0 [] 0 := ⟨rfl, Words.nil, by omega, by simp [val]⟩

theorem mul_bound {x t : Nat} (hx : x < 4294967296) (ht : t < 4294967296) : x * t ≤ 18446744065119617025 := by
  have := Nat.mul_le_mul (Nat.le_of_lt_succ (show x < 4294967295 + 1 by omega)) (Nat.le_of_lt_succ (show t < 4294967295 + 1 by omega))
  omega

theorem MulSt.step {W X : List Nat} {t k : Nat} {S : List Nat} {cy : Nat} (h : MulSt W X t k S cy) (hW : Words W) (hX : Words X) (ht : t < 4294967296) :
    MulSt W X t (k + 1) (S ++ [(cy + (W.getD k 0 * t + X.getD k 0)) % 4294967296]) ((cy + (W.getD k 0 * t + X.getD k 0)) / 4294967296) := by
  have h1 := hW.get k
  have h2 := hX.get k
  have h3 := h.carry
  have h4 := mul_bound h1 ht
  refine ⟨by simp [h.len], h.words.snoc (Nat.mod_lt _ (by omega)), by omega, ?_⟩
  rw [val_snoc, h.len, val_take_succ', val_take_succ', B32_succ]
  have e := h.eq
  generalize W.getD k 0 = x at *
  generalize X.getD k 0 = y at *
  have hd := Nat.div_add_mod (cy + (x * t + y)) 4294967296
  generalize (cy + (x * t + y)) / 4294967296 = q at *
  generalize (cy + (x * t + y)) % 4294967296 = r at *
  generalize B32 k = b at *
  have e2 : b * r + 4294967296 * b * q = b * (cy + (x * t + y)) := by
    rw [← hd, Nat.mul_add, Nat.mul_comm 4294967296 b, Nat.mul_assoc, Nat.add_comm]
  have e3 : (val (W.take k) + b * x) * t = val (W.take k) * t + b * (x * t) := by rw [Nat.add_mul, Nat.mul_assoc]
  simp only [Nat.mul_add] at e2
  omega

/-- The words of a product that is added, and the carry, by rounds. -/
def mulGo (W X : List Nat) (t : Nat) : Nat → List Nat × Nat
  | 0 => ([], 0)
  | k + 1 => ((mulGo W X t k).1 ++ [((mulGo W X t k).2 + (W.getD k 0 * t + X.getD k 0)) % 4294967296], ((mulGo W X t k).2 + (W.getD k 0 * t + X.getD k 0)) / 4294967296)

theorem mulGo_st {W X : List Nat} {t : Nat} (hW : Words W) (hX : Words X) (ht : t < 4294967296) : ∀ k, MulSt W X t k (mulGo W X t k).1 (mulGo W X t k).2
  | 0 => MulSt.start W X t
  | k + 1 => (mulGo_st hW hX ht k).step hW hX ht

/-- The block of the words that are added to. -/
theorem Blk.mid {w : World} {g : Nat} {e : TypeId} {k : IntKind} {xs S : List Nat} {o i : Nat} (h : Blk w g e k (xs.take o ++ S ++ xs.drop (o + i))) (hs : S.length = i) (ho : o + i < xs.length) (x : Nat) :
    w.cell? ⟨g, o + i, none⟩ = some (.int k (xs.getD (o + i) 0 : Nat)) ∧ Blk (w.setCell ⟨g, o + i, none⟩ (.int k x)) g e k (xs.take o ++ (S ++ [x]) ++ xs.drop (o + (i + 1))) := by
  have hl : (xs.take o ++ S).length = o + i := by simp; omega
  have hd : xs.drop (o + i) = xs.getD (o + i) 0 :: xs.drop (o + (i + 1)) := by
    rw [List.drop_eq_getElem_cons ho, List.getD_eq_getElem?_getD]; simp [ho, Nat.add_assoc]
  rw [hd] at h
  constructor
  · refine h.cell ?_
    rw [List.getElem?_append_right (by omega), hl]; simp
  · have := h.set (o + i) x
    rw [List.set_append_right _ _ (by omega), hl, Nat.sub_self, List.set_cons_zero] at this
    rw [show xs.take o ++ (S ++ [x]) ++ xs.drop (o + (i + 1)) = xs.take o ++ S ++ x :: xs.drop (o + (i + 1)) by simp]
    exact this

theorem grownBy_refl (w : World) (r : Option Nat) : w.grownBy w r := ⟨rfl, rfl, rfl, Nat.le_refl _, fun _ _ _ => rfl⟩
theorem grownBy_trans {a b c : World} {r : Option Nat} (h : a.grownBy b r) (k : b.grownBy c r) : a.grownBy c r :=
  ⟨k.os.trans h.os, k.tape.trans h.tape, k.output.trans h.output, Nat.le_trans h.size k.size, fun i hi hr => (k.block i (Nat.lt_of_lt_of_le hi h.size) hr).trans (h.block i hi hr)⟩
theorem grownBy_setCell (w : World) (g i : Nat) (u : Value) : w.grownBy (w.setCell ⟨g, i, none⟩ u) (some g) :=
  ⟨rfl, rfl, rfl, by simp, fun k _ hk => heap_setCell_other w ⟨g, i, none⟩ k u (fun e => hk (by simp [e]))⟩
theorem Row.grown {w w' : World} {k : IntKind} {p : Option Addr} {n c : Nat} {xs : List Nat} {g : Nat} (h : Row w k p n c xs) (hg : w.grownBy w' (some g)) (hp : ∀ q, p = some q → q.block ≠ g) : Row w' k p n c xs := by
  refine ⟨h.len, h.cap, h.max, ?_⟩
  rcases h.at_ with h1 | ⟨b, off, h1, h2, h3⟩
  · exact .inl h1
  · have hne := hp _ h1
    refine .inr ⟨b, off, h1, Nat.lt_of_lt_of_le h2 hg.size, fun i x hx => ?_⟩
    exact hg.cell (h3 i x hx) (fun e => hne (Option.some.inj e))

/-- The answer: the words that stand there now, and the carry. -/
def GivesProd (W xs : List Nat) (t o g : Nat) (e : TypeId) (w : World) (en : Ending) (w' : World) : Prop :=
  en = .returned (.int .u32 ((mulGo W (xs.drop o) t W.length).2 : Nat)) ∧ Blk w' g e .u32 (xs.take o ++ (mulGo W (xs.drop o) t W.length).1 ++ xs.drop (o + W.length)) ∧ w.grownBy w' (some g) ∧ w'.heap.size = w.heap.size

set_option maxHeartbeats 1000000 in
theorem addProduct_calls (w : World) (g o n c : Nat) (xs : List Nat) (q : Option Addr) (m d : Nat) (W : List Nat) (t : Nat)
    (hg : Blk w g 67 .u32 xs) (hx : Words xs) (hW : Row w .u32 q m d W) (wW : Words W) (ht : t < 4294967296) (hq : ∀ a, q = some a → a.block ≠ g) (hm : m < 1000000) (ho : o + m ≤ xs.length) (hn : m ≤ n) (hc : n ≤ c) (hc2 : c < 9223372036854775807) :
    Calls Try.prog 47 #[.slice (some ⟨g, o, none⟩) n c, .slice q m d, .int .u32 t] w (GivesProd W xs t o g 67 w) := by
  have HW := Lib.hid hW.len
  go_enter Try.func47, Try.ntmps47
  go_wp2
  go_loopw [7, 12] (fun cy i wr => ∃ k y : Nat, ∃ S, k ≤ m ∧ i = .int .i64 k ∧ cy = .int .u64 y ∧ mulGo W (xs.drop o) t k = (S, y) ∧ Blk wr g 67 .u32 (xs.take o ++ S ++ xs.drop (o + k)) ∧ w.grownBy wr (some g) ∧ wr.heap.size ≤ w.heap.size) (fun _ i _ => m - (intOf i).toNat)
  case atStart => exact ⟨0, 0, [], by omega, rfl, rfl, rfl, by rw [List.append_nil, Nat.add_zero, List.take_append_drop]; exact hg, grownBy_refl _ _, Nat.le_refl _⟩
  case round =>
    obtain ⟨k, y, S, hk, rfl, rfl, hS, hblk, hgr, hsz⟩ := hrel
    have hst := mulGo_st wW (hx.drop o) ht k
    rw [hS] at hst
    have hy := hst.carry
    have hsl := hst.len
    simp only at hy hsl
    have HS := Lib.hid hS
    have HSL := Lib.hid hsl
    clear hS hst hsl
    by_cases hkm : k < m
    · obtain ⟨b, off, rfl, hb, hcell⟩ := (hW.grown hgr hq).pos (by omega)
      obtain ⟨x, hxk⟩ : ∃ x, W.getD k 0 = x := ⟨_, rfl⟩
      obtain ⟨z, hz⟩ : ∃ z, xs.getD (o + k) 0 = z := ⟨_, rfl⟩
      have hci : wr.cell? ⟨b, off + k, none⟩ = some (.int .u32 (x : Nat)) := hcell k x (by rw [← hxk, List.getD_eq_getElem?_getD]; simp [show k < W.length by have := HW.out; omega])
      have hmid := fun u => Blk.mid hblk HSL.out (by omega) u
      have hcz := (hmid 0).1
      rw [hz] at hcz
      have hfz := hblk.free (o + k)
      have hx1 : x < 4294967296 := by rw [← hxk]; exact wW.get k
      have hz1 : z < 4294967296 := by rw [← hz]; exact hx.get _
      have hp := mul_bound hx1 ht
      have hp' : (x : Int) * t ≤ 18446744065119617025 := by rw [← Int.natCast_mul]; omega
      have hp0 : 0 ≤ (x : Int) * t := by rw [← Int.natCast_mul]; omega
      have HX := Lib.hid hxk
      have HZ := Lib.hid hz
      have HM := Lib.hid (fun u => (hmid u).2)
      clear hcell hxk hz hmid hp
      go_wp2
      go_roundw
      case rel =>
        have hzd : (xs.drop o).getD k 0 = z := by rw [List.getD_eq_getElem?_getD, List.getElem?_drop, ← List.getD_eq_getElem?_getD]; exact HZ.out
        refine ⟨k + 1, (y + (x * t + z)) / 4294967296, S ++ [(y + (x * t + z)) % 4294967296], by omega, by go_num, ?_, by rw [mulGo, HS.out, HX.out, hzd], ?_, ?_, by simpa using hsz⟩
        · exact congrArg (Value.int .u64) (by rw [← Int.natCast_mul]; omega)
        · have := HM.out ((y + (x * t + z)) % 4294967296)
          have e : (((y + (x * t + z)) % 4294967296 : Nat) : Int) = ((y : Int) + ((x : Int) * t + z)) % 4294967296 := by rw [← Int.natCast_mul]; omega
          rw [e] at this
          exact this
        · exact grownBy_trans hgr (grownBy_setCell _ _ _ _)
      case measure => simp [intOf]; omega
    · have hkm' : m ≤ k := by omega
      have hkl : k = W.length := by have := HW.out; omega
      have HK := Lib.hid hkl
      clear hkl
      go_wp2
      go_ret
      refine ⟨?_, by rw [← HK.out, HS.out]; exact hblk, hgr, Nat.le_antisymm hsz hgr.size⟩
      rw [← HK.out, HS.out]
      exact congrArg (fun z => Ending.returned (.int .u32 z)) (by omega)

end Go.Proofs.Ythpfpnialeoclaa
