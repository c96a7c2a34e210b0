/- Bytes appended to a full row; bytes copied into bytes of the call's own; the tag of nothing, the tag with a half of noughts. -/
import Derived.Test.YthpfpnialeoclaaOwn
import Derived.Test.YthpfpnialeoclaaTagX
/-! Bytes of the call's own: read and written over. -/
namespace Go.Proofs.Ythpfpnialeoclaa
open Go Go.RowKit

theorem Own.cell {w : World} {B g n c : Nat} {bs : List Nat} (h : Own w B (.slice (some ⟨g, 0, none⟩) n c) bs) {i x : Nat} (hx : bs[i]? = some x) : w.cell? ⟨g, i, none⟩ = some (.int .u8 (x : Nat)) := by
  have hi : i < bs.length := (List.getElem?_eq_some_iff.1 hx).1
  have e : n = bs.length := by
    rcases h.owns.2 with ⟨h1, _⟩ | ⟨_, _, _, h1, _⟩
    · simp at h1
    · simp only [Value.slice.injEq] at h1; omega
  subst e
  rw [h.owns.cellAt i (by omega), List.getElem?_map, hx]
  rfl
theorem Own.free {w : World} {B g n c : Nat} {bs : List Nat} (h : Own w B (.slice (some ⟨g, 0, none⟩) n c) bs) (i : Nat) : w.frozen? ⟨g, i, none⟩ = false := by
  have e : n = bs.length := by
    rcases h.owns.2 with ⟨h1, _⟩ | ⟨_, _, _, h1, _⟩
    · simp at h1
    · simp only [Value.slice.injEq] at h1; omega
  subst e
  exact h.owns.frozenAt i
theorem Own.set {w : World} {B g n c : Nat} {bs : List Nat} (h : Own w B (.slice (some ⟨g, 0, none⟩) n c) bs) (i x : Nat) :
    Own (w.setCell ⟨g, i, none⟩ (.int .u8 (x : Nat))) B (.slice (some ⟨g, 0, none⟩) n c) (bs.set i x) ∧ w.grownBy (w.setCell ⟨g, i, none⟩ (.int .u8 (x : Nat))) (some g) := by
  have e : n = bs.length := by
    rcases h.owns.2 with ⟨h1, _⟩ | ⟨_, _, _, h1, _⟩
    · simp at h1
    · simp only [Value.slice.injEq] at h1; omega
  subst e
  obtain ⟨h1, h2⟩ := h.owns.stored i (.int .u8 (x : Nat))
  refine ⟨⟨?_⟩, h2⟩
  rw [List.length_set, List.map_set]
  exact h1

/-- Bytes of the call's own, some at least: where they lie. -/
theorem Own.there {w : World} {B : Nat} {v : Value} {bs : List Nat} (h : Own w B v bs) (h0 : 0 < bs.length) : ∃ g c, v = .slice (some ⟨g, 0, none⟩) bs.length c ∧ B ≤ g ∧ g < w.heap.size := by
  rcases h.owns.2 with ⟨_, h1⟩ | ⟨g, cap, cur, rfl, hb, hg, _⟩
  · omega
  · exact ⟨g, cap, rfl, hb, (Array.getElem?_eq_some_iff.1 hg).1⟩

end Go.Proofs.Ythpfpnialeoclaa

namespace Go.Proofs.Ythpfpnialeoclaa
open Go Go.RowKit Go.Proofs.Ythpfpnialeoclaa.Flow

/-- make([]byte, 16) as a value. -/
inductive Nought16 : Value → World → Prop where
  | of (g : Nat) (w : World) (h : Blk w g 5 .u8 (List.replicate 16 0)) : Nought16 (.slice (some ⟨g, 0, none⟩) 16 16) w
theorem Nought16.elim {v : Value} {w : World} (h : Nought16 v w) {C : Prop} (k : ∀ g, v = .slice (some ⟨g, 0, none⟩) 16 16 → Blk w g 5 .u8 (List.replicate 16 0) → C) : C := by
  cases h with
  | of g _ h => exact k g rfl h
theorem Nought16.below {v : Value} {w w' : World} (h : Nought16 v w) (hb : Below w.heap.size w w') : Nought16 v w' := by
  cases h with
  | of g _ h => exact .of g w' (h.below hb h.lt)

/-- 'append(b, s...)' where b has no room: a new row; what was there stays. -/
theorem run_app_full {w : World} {g n : Nat} {xs : List Nat} (hx : Blk w g 5 .u8 xs) (hl : n = xs.length) {p : Option Addr} {m c : Nat} {bs : List Nat} (hr : RowIn w .u8 p m c bs) (hm : 0 < m)
    (hmax : n + m ≤ 140737488355328) (ty : TypeId) {C : Prop}
    (k : ∀ v' w', (Builtin.append_ #[22, 22] ty #[.slice (some ⟨g, 0, none⟩) n n, .slice p m c]).run Try.prog w = .ok v' w' → Own w' w.heap.size v' (xs ++ bs) → Below w.heap.size w w' → C) : C := by
  obtain ⟨i, hi, hz, hs, hb⟩ := info_parts Try.info_u8
  have hbl := hr.len
  obtain ⟨b, off, e, h2, h3⟩ := (hr.row hm).pos hm
  subst e
  obtain ⟨v', w', h1, h4, h5⟩ := run_append_arg_grows (P := Try.prog) w 22 ty 5 i (.int .u8 0) 1 1 Try.underlying22 hi hz hs hb rfl (by decide) ⟨g, 0, none⟩ n n (xs.map fun (x : Nat) => Value.int .u8 (x : Int)) (by simp [hl])
    (fun j u hu => by
      rw [List.getElem?_map] at hu
      obtain ⟨x, hx', rfl⟩ := Option.map_eq_some_iff.1 hu
      rw [add_plain, Nat.zero_add]
      exact hx.cell hx')
    ⟨b, off, none⟩ m c (bs.map fun (x : Nat) => Value.int .u8 (x : Int)) (by simp [hbl])
    (fun j u hu => by
      rw [List.getElem?_map] at hu
      obtain ⟨x, hx, rfl⟩ := Option.map_eq_some_iff.1 hu
      rw [add_plain]
      exact h3 j x hx) (by omega) (by simp only [maxLen]; omega) (by omega)
  refine k v' w' h1 ⟨?_⟩ ⟨h5.os, h5.tape, h5.output, h5.size, fun k hk => h5.block k hk (by simp)⟩
  rw [List.length_append, List.map_append, ← hl, ← hbl]
  exact h4

/-- copy into bytes of the call's own. -/
theorem wpList_copy_into {w : World} {ops : Array Oper} {rest : List Oper} {o : Oper} {a : Act} {Q : Exit → Act → World → Prop} (hgd : o.guard = none) (d s : Operand)
    (ho : o.op = .call { callee := .builtin .copy, args := #[d, s], argTypes := #[22, 22] })
    {B g n c : Nat} {bs : List Nat} (hO : Own w B (.slice (some ⟨g, 0, none⟩) n c) bs) (hn : n = bs.length) (hd : a.eval d = .slice (some ⟨g, 0, none⟩) n c)
    {p : Option Addr} {m cm : Nat} {xs : List Nat} (hs : a.eval s = .slice p m cm) (hr : RowIn w .u8 p m cm xs) (hB : B ≤ g)
    (h : ∀ w' j, Own w' B (.slice (some ⟨g, 0, none⟩) n c) (xs.take (min m n) ++ bs.drop (min m n)) → Below B w w' → wpList Try.prog ops Q rest (a.put o.dst (goInt j)) w') :
    wpList Try.prog ops Q (o :: rest) a w := by
  subst hn
  have hl := hr.len
  rcases hO.owns.2 with ⟨h1, h2⟩ | ⟨g', cap, cur, h1, hb, hg, hnc, hcm, hcs, ht⟩
  · simp at h1
  · simp only [Value.slice.injEq, Option.some.injEq, Addr.mk.injEq, true_and, and_true] at h1
    obtain ⟨rfl, rfl⟩ := h1
    rw [Nat.mul_one] at ht hcs
    have hcur : cur.toList.length = c := by simpa using hcs
    have hk : ∀ w', Hid (w'.heap[g]? = some (.cells (splice cur.toList 0 ((xs.take (min m bs.length)).map fun (x : Nat) => Value.int .u8 (x : Int))).toArray 5 (0, 0))) → Below B w w' →
        wpList Try.prog ops Q rest (a.put o.dst (goInt ((xs.take (min m bs.length)).map fun (x : Nat) => Value.int .u8 (x : Int)).length)) w' := by
      intro w' hw hbl
      refine h w' _ ⟨?_, .inr ⟨g, c, _, ?_, hb, hw.out, ?_, hcm, ?_, ?_⟩⟩ hbl
      · simp <;> omega
      · simp <;> omega
      · simp <;> omega
      · simp [splice] <;> omega
      · simp only [splice, List.take_zero, List.nil_append, Nat.zero_add, Nat.mul_one]
        have hlen : (xs.take (min m bs.length) ++ bs.drop (min m bs.length)).length = bs.length := by simp; omega
        rw [hlen, List.map_append, List.take_append, List.take_of_length_le (by simp; omega)]
        congr 1
        have e1 : (bs.drop (min m bs.length)).map (fun (x : Nat) => Value.int .u8 (x : Int)) = ((bs.map fun (x : Nat) => Value.int .u8 (x : Int))).drop (min m bs.length) := by rw [List.map_drop]
        rw [e1, ← ht, List.drop_take]
        congr 1
        · simp; omega
        · simp; omega
    refine wpList_copy_splice hgd d s 22 22 ho 5 Try.underlying22 (by kernel_rfl) (some ⟨g, 0, none⟩) p bs.length c m cm hd hs g 0 cur.toList 5 (by simpa using hg)
      ((xs.take (min m bs.length)).map fun (x : Nat) => Value.int .u8 (x : Int)) (by rw [List.length_map, List.length_take, ← hl]; show min (min m bs.length) m = min m bs.length; omega) (fun hp => ⟨rfl, ?_⟩) (by simp; omega) (fun v hv => by obtain ⟨x, _, rfl⟩ := List.mem_map.1 hv; rfl) B w (Below.refl _ _) hB hk
    have hm0 : 0 < m := by simp at hp; omega
    obtain ⟨b, off, rfl, _, hc⟩ := (hr.row hm0).pos hm0
    refine ⟨_, rfl, fun j v hv => ?_⟩
    rw [List.getElem?_map] at hv
    obtain ⟨x, hx, rfl⟩ := Option.map_eq_some_iff.1 hv
    rw [add_plain]
    rw [List.getElem?_take] at hx
    split at hx
    · exact hc j x hx
    · cases hx

theorem tag_nothing {key : List Nat} (h : Bytes8 key) (hl : key.length = 32) : tagOf key [] = key.drop 16 := by
  have e : tagNum key [] = le (key.drop 16) := by unfold tagNum; rw [stirred_nil, Nat.zero_add]
  unfold tagOf
  rw [e]
  have h1 := bytesLE_le (xs := key.drop 16) (fun x hx => h x (List.mem_of_mem_drop hx))
  rwa [List.length_drop, hl] at h1
theorem stirred_zero : ∀ (k : Nat) (xs : List Nat), stirred 0 k 0 xs = 0
  | 0, _ => rfl
  | k + 1, xs => by
    simp only [stirred]
    split
    · rfl
    · rw [show stir 0 0 xs = 0 by simp [stir]]
      exact stirred_zero k _
theorem tag_nought {s xs : List Nat} (h : Bytes8 s) (hl : s.length = 16) : tagOf (List.replicate 16 0 ++ s) xs = s := by
  have e : tagNum (List.replicate 16 0 ++ s) xs = le s := by
    unfold tagNum
    rw [List.take_left' (by simp), List.drop_left' (by simp), show le (clamp (List.replicate 16 0)) = 0 by kernel_rfl, stirred_zero, Nat.zero_add]
  unfold tagOf
  rw [e]
  have h1 := bytesLE_le h
  rwa [hl] at h1
end Go.Proofs.Ythpfpnialeoclaa
