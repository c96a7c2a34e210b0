/- A slab in memory; a map of whatever values as a function; a part of a row as one value. -/
import Derived.Test.YtpodoleopebioaaSlM
import Derived.Test.YtpodoleopebioaaMid
import Derived.Test.YtpodoleopebioaaBut
import Derived.Maps.OwnSet
import Derived.Lib.SlKeysI
import Derived.Great.BuildSlice
import Derived.Lib.Hide
namespace Go.Proofs.Ytpodoleopebioaa
open Go Go.RowKit Go.Maps
set_option maxRecDepth 100000
open Go.ChangeMaps Go.MapKept

/-- How any value reads: as itself. -/
def anyR (v : Value) : Option (DataW Value × List MemPlace) := some (.held v, [])

/-- A map keyed by numbers, of at most N entries, as a function. -/
structure MapIs (w : World) (m N : Nat) (f : Int → Option Value) : Prop where
  ex : ∃ D, w.ownsMap Try.prog 3 anyR m N D ∧ ∀ x z, D.atKey (.int .i64 x) z = (f x).elim z DataW.held

theorem keyed : Keyed Try.prog 3 := int_keyed Try.underlying3

theorem MapIs.block {w w' : World} {m N : Nat} {f : Int → Option Value} (h : MapIs w m N f) (hb : w'.heap[m]? = w.heap[m]?) : MapIs w' m N f := by
  obtain ⟨D, ⟨es, cl, h1, h2⟩, h3⟩ := h.ex
  exact ⟨D, ⟨es, cl, by rw [hb]; exact h1, h2⟩, h3⟩
theorem MapIs.lt {w : World} {m N : Nat} {f : Int → Option Value} (h : MapIs w m N f) : m < w.heap.size := by
  obtain ⟨D, h1, _⟩ := h.ex
  exact h1.lt
theorem MapIs.below {w w' : World} {m N B : Nat} {f : Int → Option Value} (h : MapIs w m N f) (hb : Below B w w') (hm : m < B) : MapIs w' m N f := h.block (hb.block m hm)
theorem MapIs.isMap {w : World} {m N : Nat} {f : Int → Option Value} (h : MapIs w m N f) : ∃ es cl, w.heap[m]? = some (.map es cl) := by
  obtain ⟨D, ⟨es, cl, h1, _⟩, _⟩ := h.ex
  exact ⟨es, cl, h1⟩
theorem MapIs.made (w : World) : MapIs (w.alloc (.map #[] 0)) w.heap.size 0 (fun _ => none) :=
  ⟨.map [], World.ownsMap_made w _ _ _, fun _ _ => rfl⟩

theorem MapIs.has {f : Int → Option Value} {D : DataW Value} (k : ∀ x z, D.atKey (.int .i64 x) z = (f x).elim z DataW.held) (x : Int) : Maps.has D (.int .i64 x) = (f x).isSome := by
  cases e : f x with
  | none => rw [has_false_of_atKey (fun z => by rw [k x z, e]; rfl)]; rfl
  | some v => rw [has_true_of_atKey (fun z => by rw [k x z, e]; rfl)]; rfl

theorem MapIs.look {w : World} {m N : Nat} {f : Int → Option Value} (h : MapIs w m N f) {t e : TypeId} (ht : Try.prog.underlying t = some (.map 3 e)) {z : Value} (hz : (zeroValue e).run Try.prog w = .ok z w) {x : Int} (hx : (Lit.int .i64 x).wf = true) :
    (Instr.lookup t (.map (some m)) (.int .i64 x) false).run Try.prog w = .ok ((f x).getD z) w := by
  obtain ⟨D, h1, h2⟩ := h.ex
  obtain ⟨v, ps, hr, hv⟩ := h1.lookup keyed ht hz (zd := .held z) (zp := []) rfl (keyOf_int_mk Try.underlying3 hx)
  rw [hr]
  rw [h2 x] at hv
  simp only [anyR, Option.some.injEq, Prod.mk.injEq] at hv
  cases e : f x with
  | none => rw [e] at hv; have := hv.1; simp at this; rw [this]; rfl
  | some u => rw [e] at hv; have := hv.1; simp at this; rw [this]; rfl
theorem MapIs.look_ok {w : World} {m N : Nat} {f : Int → Option Value} (h : MapIs w m N f) {t e : TypeId} (ht : Try.prog.underlying t = some (.map 3 e)) {z : Value} (hz : (zeroValue e).run Try.prog w = .ok z w) {x : Int} (hx : (Lit.int .i64 x).wf = true) :
    (Instr.lookup t (.map (some m)) (.int .i64 x) true).run Try.prog w = .ok (.tuple #[(f x).getD z, .bool (f x).isSome]) w := by
  obtain ⟨D, h1, h2⟩ := h.ex
  obtain ⟨v, ps, hr, hv⟩ := h1.look_ok keyed ht hz (zd := .held z) (zp := []) rfl (keyOf_int_mk Try.underlying3 hx)
  rw [hr, MapIs.has h2]
  rw [h2 x] at hv
  simp only [anyR, Option.some.injEq, Prod.mk.injEq] at hv
  cases e : f x with
  | none => rw [e] at hv; have := hv.1; simp at this; rw [this]; rfl
  | some u => rw [e] at hv; have := hv.1; simp at this; rw [this]; rfl
theorem MapIs.put {w : World} {m N : Nat} {f : Int → Option Value} (h : MapIs w m N f) (hN : N < maxLen) {t e : TypeId} (ht : Try.prog.underlying t = some (.map 3 e)) {x : Int} (hx : (Lit.int .i64 x).wf = true) (v : Value) :
    ∃ w', (Instr.mapUpdate t (.map (some m)) (.int .i64 x) v).run Try.prog w = .ok () w' ∧ MapIs w' m (N + 1) (fun y => if y = x then some v else f y) ∧ w.grownBy w' (some m) := by
  obtain ⟨D, h1, h2⟩ := h.ex
  obtain ⟨w', hr, h3, h4⟩ := h1.update keyed ht hN (val := v) (d := .held v) (ps := []) (keyOf_int_mk Try.underlying3 hx) rfl
  refine ⟨w', hr, ⟨_, h3, fun y z => ?_⟩, h4⟩
  by_cases hy : y = x
  · subst hy
    rw [atKey_put_same h1.isMap (keyed.key (keyOf_int_mk Try.underlying3 hx)), if_pos rfl]; rfl
  · rw [atKey_put_other (fun e => hy (by cases e; rfl)), h2 y z, if_neg hy]
theorem MapIs.del {w : World} {m N : Nat} {f : Int → Option Value} (h : MapIs w m N f) {t e : TypeId} (ht : Try.prog.underlying t = some (.map 3 e)) {x : Int} (hx : (Lit.int .i64 x).wf = true) (ty : TypeId) :
    ∃ w', (Builtin.delete_ #[t, 3] ty #[.map (some m), .int .i64 x]).run Try.prog w = .ok (.tuple #[]) w' ∧ MapIs w' m N (fun y => if y = x then none else f y) ∧ w.grownBy w' (some m) := by
  obtain ⟨D, h1, h2⟩ := h.ex
  obtain ⟨w', hr, h3, h4⟩ := h1.drop keyed ht (keyOf_int_mk Try.underlying3 hx) ty
  refine ⟨w', hr, ⟨_, h3, fun y z => ?_⟩, h4.grown⟩
  by_cases hy : y = x
  · subst hy
    rw [atKey_del_same, if_pos rfl]; rfl
  · rw [atKey_del_other (fun e => hy (by cases e; rfl)), h2 y z, if_neg hy]

/-- The keys that there are. -/
theorem MapIs.keys {w : World} {m N n : Nat} {f : Int → Option Value} {D : DataW Value} (h1 : w.ownsMap Try.prog 3 anyR m N D) (h2 : ∀ x z, D.atKey (.int .i64 x) z = (f x).elim z DataW.held) (hf : ∀ x v, f x = some v → 0 ≤ x ∧ x < (n : Int)) :
    (((List.range n).filter fun (j : Nat) => (f (j : Int)).isSome).map fun (j : Nat) => (j : Int)).Perm (intKeys D) := by
  have hh := MapIs.has h2
  obtain ⟨es, rfl, hp, _⟩ := h1.entries keyed
  obtain ⟨es', e', hk⟩ := h1.keysOf
  cases e'
  refine perm_intKeys hp (fun p hpp => ?_) ?_ (fun x => ?_)
  · obtain ⟨v, hv⟩ := hk p hpp
    obtain ⟨x, _, e, _⟩ := Maps.keyOf_i64 Try.underlying3 hv
    exact ⟨x, e⟩
  · refine List.pairwise_map.2 ?_
    exact (List.Pairwise.filter _ List.nodup_range).imp (fun hne e => hne (by exact Int.ofNat.inj e))
  · rw [hh x]
    simp only [List.mem_map, List.mem_filter, List.mem_range]
    constructor
    · rintro ⟨j, ⟨_, hj⟩, rfl⟩; exact hj
    · intro hs
      obtain ⟨v, hv⟩ := Option.isSome_iff_exists.1 hs
      have := hf x v hv
      exact ⟨x.toNat, ⟨by omega, by rw [Int.toNat_of_nonneg this.1]; exact hs⟩, by omega⟩

theorem length_intKeys {D : DataW Value} {w : World} {m N : Nat} (h : w.ownsMap Try.prog 3 anyR m N D) : ∃ es, D = .map es ∧ (intKeys D).length = es.length := by
  obtain ⟨es, rfl, _⟩ := h.entries keyed
  exact ⟨es, rfl, by simp [intKeys]⟩

/-- It has no more entries than keys can be. -/
theorem MapIs.tight {w : World} {m N n : Nat} {f : Int → Option Value} (h : MapIs w m N f) (hf : ∀ x v, f x = some v → 0 ≤ x ∧ x < (n : Int)) : MapIs w m n f := by
  obtain ⟨D, h1, h2⟩ := h.ex
  refine ⟨D, ?_, h2⟩
  have hp := (MapIs.keys h1 h2 hf).length_eq
  have hl := List.length_filter_le (fun j : Nat => (f j).isSome) (List.range n)
  obtain ⟨es, cl, g1, g2, g3, rfl⟩ := h1
  refine ⟨es, cl, g1, g2, ?_, rfl⟩
  have e1 : (intKeys (DataW.map ((es.toList.map (WideElems.rg Try.prog 3 anyR)).foldr DataW.insert []))).length = es.size := by simp [intKeys, length_sorted]
  rw [← e1, ← hp]
  simpa using hl

theorem MapIs.clear {w : World} {m N : Nat} {f : Int → Option Value} (h : MapIs w m N f) {t e : TypeId} (ht : Try.prog.underlying t = some (.map 3 e)) (ty : TypeId) :
    ∃ w', (Builtin.clear_ #[t] ty #[.map (some m)]).run Try.prog w = .ok (.tuple #[]) w' ∧ MapIs w' m 0 (fun _ => none) ∧ w.grownBy w' (some m) := by
  obtain ⟨D, ⟨es, cl, g1, g2, g3, rfl⟩, _⟩ := h.ex
  refine ⟨setBlock w m (.map #[] cl), ?_, ⟨.map [], ⟨#[], cl, heap_setBlock_same g1 _, ⟨by simp, stamped_empty cl, by simp⟩, Nat.le_refl _, rfl⟩, fun _ _ => rfl⟩, ⟨rfl, rfl, rfl, by simp [setBlock], fun i _ hi => heap_setBlock_other g1 _ (fun e => hi (by rw [e]))⟩⟩
  simp [Builtin.clear_, run_underlying ht, MapKept.run_getObj_map g1, MapKept.run_setObj_map _ g1, setBlock, Result.andThen]

end Go.Proofs.Ytpodoleopebioaa
