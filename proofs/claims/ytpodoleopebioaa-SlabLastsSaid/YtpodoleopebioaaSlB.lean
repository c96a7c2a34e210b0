/- Faces in a row; a slab in memory. -/
import Derived.Test.YtpodoleopebioaaSlA
namespace Go.Proofs.Ytpodoleopebioaa
open Go Go.RowKit Go.Maps
set_option maxRecDepth 100000

/-- A face as a value. -/
def faceV (xs : List Nat) : Value := .agg (xs.map fun (x : Nat) => Value.int .u8 x).toArray

/-- Faces, one behind the other. -/
def flatF : Nat → (Nat → List Nat) → List Nat
  | 0, _ => []
  | n + 1, f => flatF n f ++ f n

theorem flatF_len {f : Nat → List Nat} (hf : ∀ j, (f j).length = 64) : ∀ n, (flatF n f).length = 64 * n
  | 0 => rfl
  | n + 1 => by simp [flatF, flatF_len hf n, hf n]; omega
theorem flatF_at {f : Nat → List Nat} (hf : ∀ j, (f j).length = 64) {k j : Nat} (hj : j < 64) : ∀ {n : Nat}, k < n → (flatF n f)[64 * k + j]? = (f k)[j]?
  | 0, h => by omega
  | n + 1, h => by
    unfold flatF
    have hl := flatF_len hf n
    by_cases hk : k = n
    · subst hk
      rw [List.getElem?_append_right (by omega), hl]
      congr 1; omega
    · rw [List.getElem?_append_left (by omega)]
      exact flatF_at hf hj (by omega)
theorem flatF_congr {f g : Nat → List Nat} : ∀ {n : Nat}, (∀ j, j < n → f j = g j) → flatF n f = flatF n g
  | 0, _ => rfl
  | n + 1, h => by
    unfold flatF
    rw [flatF_congr (fun j hj => h j (by omega)), h n (by omega)]
/-- One face turned. -/
theorem flatF_set {f : Nat → List Nat} (hf : ∀ j, (f j).length = 64) {k : Nat} {b : List Nat} (hb : b.length = 64) : ∀ {n : Nat}, k < n →
    (flatF n f).take (64 * k) ++ b ++ (flatF n f).drop (64 * k + 64) = flatF n (fun j => if j = k then b else f j)
  | 0, h => by omega
  | n + 1, h => by
    have hl := flatF_len hf n
    by_cases hk : k = n
    · subst hk
      show (flatF k f ++ f k).take (64 * k) ++ b ++ (flatF k f ++ f k).drop (64 * k + 64) = flatF k (fun j => if j = k then b else f j) ++ (if k = k then b else f k)
      rw [if_pos rfl, List.take_append_of_le_length (by omega), List.take_of_length_le (by omega), List.drop_of_length_le (by simp [hl, hf k]), List.append_nil,
        flatF_congr (f := fun j => if j = k then b else f j) (g := f) (fun j hj => if_neg (by omega))]
    · have ih := flatF_set hf hb (n := n) (k := k) (by omega)
      show (flatF n f ++ f n).take (64 * k) ++ b ++ (flatF n f ++ f n).drop (64 * k + 64) = flatF n (fun j => if j = k then b else f j) ++ (if n = k then b else f n)
      rw [if_neg (fun e => hk e.symm), ← ih, List.take_append_of_le_length (by omega), List.drop_append_of_le_length (by omega)]
      simp only [List.append_assoc]

theorem faceV_cells (xs : List Nat) : (faceV xs).cells = (xs.map fun (x : Nat) => Value.int .u8 x).toArray := rfl

theorem Try.info_face : (Try.prog.info? 66).map (fun i => i.size) = some 64 := by kernel_rfl

variable {P : Program}
/-- A part of a row, loaded as one value. -/
theorem run_loadVar_part (w : World) (g off : Nat) (t ty : TypeId) (cs : List Value) (d : TypeDesc) (all : Array Value) (fr : Nat × Nat) (hg : w.heap[g]? = some (.cells all t fr)) (hs : ∀ (j : Nat) (v : Value), cs[j]? = some v → all[off + j]? = some v)
    (hu : P.underlying ty = some d) (hd : (match d with | .struct _ | .array _ _ => true | _ => false) = true) (hi : (P.info? ty).map (·.size) = some cs.length) :
    (loadVar ty ⟨g, off, none⟩).run P w = .ok (.agg cs.toArray) w := by
  have hl : (loadCells ⟨g, off, none⟩ cs.length).run P w = .ok cs.toArray w :=
    run_loadCells_list (P := P) w ⟨g, off, none⟩ cs (fun j v hv => by
      rw [add_plain, cell_of_row w g (off + j) all t fr hg]
      exact hs j v hv)
  cases hq : P.info? ty with
  | none => simp [hq] at hi
  | some i =>
    have hs : i.size = cs.length := by simpa [hq] using hi
    have hagg : (isAgg ty).run P w = .ok true w := by
      unfold isAgg
      rw [Sem.run_bind, run_underlying hu w]
      cases d <;> simp_all
    simp [loadVar, Sem.run_bind, hagg, sizeOf, typeInfo, hq, hs, hl]
/-- Bytes that came in, loaded as one value. -/
theorem run_loadVar_cells (w : World) (a : Addr) (ty : TypeId) (cs : List Value) (d : TypeDesc) (hs : ∀ (j : Nat) (v : Value), cs[j]? = some v → w.cell? (a.add j) = some v)
    (hu : P.underlying ty = some d) (hd : (match d with | .struct _ | .array _ _ => true | _ => false) = true) (hi : (P.info? ty).map (·.size) = some cs.length) :
    (loadVar ty a).run P w = .ok (.agg cs.toArray) w := by
  have hl : (loadCells a cs.length).run P w = .ok cs.toArray w := run_loadCells_list (P := P) w a cs hs
  cases hq : P.info? ty with
  | none => simp [hq] at hi
  | some i =>
    have hs : i.size = cs.length := by simpa [hq] using hi
    have hagg : (isAgg ty).run P w = .ok true w := by
      unfold isAgg
      rw [Sem.run_bind, run_underlying hu w]
      cases d <;> simp_all
    simp [loadVar, Sem.run_bind, hagg, sizeOf, typeInfo, hq, hs, hl]

/-- Cells stored from a place on. -/
theorem run_storeCells_at (g off : Nat) (t : TypeId) : ∀ (vs : List Value) (i : Nat) (cur : List Value) (w : World), w.heap[g]? = some (.cells cur.toArray t (0, 0)) → off + i + vs.length ≤ cur.length → (∀ v ∈ vs, v.oneCell' = true) →
    (storeCells ⟨g, off, none⟩ vs i).run P w = .ok () (w.setRow g (cur.take (off + i) ++ vs ++ cur.drop (off + i + vs.length)).toArray)
  | [], i, cur, w, hg, hl, _ => by
    have e : (cur.take (off + i) ++ [] ++ cur.drop (off + i + ([] : List Value).length)).toArray = cur.toArray := by simp
    rw [e]
    have hlt : g < w.heap.size := (Array.getElem?_eq_some_iff.1 hg).1
    have hv : w.heap[g] = .cells cur.toArray t (0, 0) := (Array.getElem?_eq_some_iff.1 hg).2
    simp only [storeCells]
    show Result.ok () w = _
    congr 1
    unfold World.setRow
    cases w with
    | mk heap tape drawn os output =>
      congr 1
      apply Array.ext
      · simp
      · intro k h1 h2
        simp only [Array.getElem_modify]
        split
        · rename_i hk; subst hk; simp at hv; simp [hv]
        · rfl
  | v :: rest, i, cur, w, hg, hl, h1 => by
    have hi : off + i < cur.length := by simp at hl; omega
    have hcell : w.cell? ⟨g, off + i, none⟩ = some cur[off + i] := by simp [World.cell?, hg, hi]
    have hfro : w.frozen? ⟨g, off + i, none⟩ = false := by simp [World.frozen?, hg]
    have hst : (store ((⟨g, off, none⟩ : Addr).add i) v).run P w = .ok () (w.setRow g (cur.set (off + i) v).toArray) := by
      rw [add_plain, run_store P w _ v _ (h1 v (by simp)), hcell]
      simp [hfro, setCell_eq_setRow w g (off + i) cur.toArray t (0, 0) v hg]
    have ih := run_storeCells_at g off t rest (i + 1) (cur.set (off + i) v) (w.setRow g (cur.set (off + i) v).toArray) (setRow_heap w g cur.toArray _ t _ hg) (by simp at hl ⊢; omega) (fun x hx => h1 x (by simp [hx]))
    simp only [storeCells, Sem.run_bind, hst, Result.andThen_ok, ih, setRow_setRow]
    congr 3
    apply List.ext_getElem?
    intro k
    simp only [List.length_cons, List.getElem?_append, List.length_append, List.length_take, List.length_set, List.getElem?_take, List.getElem?_set, List.getElem?_drop]
    have a1 : min (off + (i + 1)) cur.length = off + i + 1 := by omega
    have a2 : min (off + i) cur.length = off + i := by omega
    rw [a1, a2]
    by_cases hk : k < off + i
    · simp [hk, show k < off + i + 1 by omega, show k < off + i + 1 + rest.length by omega, show k < off + i + (rest.length + 1) by omega, show off + i ≠ k by omega, show k < off + (i + 1) by omega]
    · by_cases hk2 : k = off + i
      · subst hk2
        simp [hi, show off + i < off + i + 1 + rest.length by omega, show off + i < off + (i + 1) by omega, show off + i < off + i + (rest.length + 1) by omega]
      · by_cases hk3 : k < off + i + 1 + rest.length
        · simp [hk, hk3, show ¬ k < off + i + 1 by omega, show k < off + i + (rest.length + 1) by omega, show k - (off + i) = (k - (off + i + 1)) + 1 by omega]
        · simp [hk3, show ¬ k < off + i + (rest.length + 1) by omega]
          rw [if_neg (by omega)]
          congr 1; omega
theorem run_storeVar_part (w : World) (g off : Nat) (t ty : TypeId) (old cells : List Value) (hg : w.heap[g]? = some (.cells old.toArray t (0, 0))) (hi : (P.info? ty).map (·.size) = some cells.length)
    (ho : off + cells.length ≤ old.length) (h1 : ∀ v ∈ cells, v.oneCell' = true) :
    (storeVar ty ⟨g, off, none⟩ (.agg cells.toArray)).run P w = .ok () (w.setRow g (old.take off ++ cells ++ old.drop (off + cells.length)).toArray) := by
  have := run_storeCells_at (P := P) g off t cells 0 old w hg (by simpa using ho) h1
  cases hq : P.info? ty with
  | none => simp [hq] at hi
  | some i =>
    have hs : cells.length = i.size := by simp [hq] at hi; omega
    simp only [Nat.add_zero] at this
    simp [storeVar, sizeOf, typeInfo, hq, Value.cells, hs.symm, this]

/-- A load of one value, at the operation. -/
theorem wpList_load_val {ops : Array Oper} {rest : List Oper} {o : Oper} {a : Act} {w : World} {Q : Exit → Act → World → Prop} (hgd : o.guard = none) (ty : TypeId) (x : Operand) (ho : o.op = .load ty x)
    (p : Addr) (hx : a.eval x = .pointer (some p)) (v : Value) (hl : (loadVar ty p).run P w = .ok v w) (h : wpList P ops Q rest (a.put o.dst v) w) : wpList P ops Q (o :: rest) a w :=
  wpList_plain hgd fun _ hK => by
    unfold Oper.wp execOp
    simp only [ho, hx, Instr.loadAt, Instr.sureAddr, Sem.run_bind, Sem.run_pure, Result.andThen_ok, hl]
    exact hK _ _ h
/-- A store of one value, at the operation. -/
theorem wpList_store_val {ops : Array Oper} {rest : List Oper} {o : Oper} {a : Act} {w w' : World} {Q : Exit → Act → World → Prop} (hgd : o.guard = none) (ty : TypeId) (x y : Operand) (ho : o.op = .store ty x y)
    (p : Addr) (hx : a.eval x = .pointer (some p)) (v : Value) (hy : a.eval y = v) (hl : (storeVar ty p v).run P w = .ok () w') (h : wpList P ops Q rest (a.put o.dst undef) w') : wpList P ops Q (o :: rest) a w :=
  wpList_plain hgd fun _ hK => by
    unfold Oper.wp execOp
    simp only [ho, hx, hy, Instr.storeAt, Instr.sureAddr, Sem.run_bind, Sem.run_pure, Result.andThen_ok, hl]
    exact hK _ _ h

theorem faces_one (xs : List Nat) : ∀ v ∈ xs.map (fun (x : Nat) => Value.int .u8 x), v.oneCell' = true := by
  intro v hv
  obtain ⟨x, _, rfl⟩ := List.mem_map.1 hv
  rfl

/-- What a slab's map holds. -/
def inkF (S : SM) (x : Int) : Option Value := if 0 ≤ x then (S.ink x.toNat).map faceV else none

/-- A slab in memory: its fields; the faces; the ink. -/
structure SlabAt (w : World) (b g m : Nat) (S : SM) : Prop where
  ok : S.Ok
  blk : w.heap[b]? = some (.cells #[.slice (some ⟨g, 0, none⟩) S.n S.n, .map (some m), .int .i64 S.sup, .int .i64 S.made] 63 (0, 0))
  row : Blk w g 66 .u8 (flatF S.n S.bur)
  ink : MapIs w m S.n (inkF S)

theorem inkF_in {S : SM} (h : S.Ok) (x : Int) (v : Value) (e : inkF S x = some v) : 0 ≤ x ∧ x < (S.n : Int) := by
  unfold inkF at e
  split at e
  · rename_i h0
    cases hi : S.ink x.toNat with
    | none => rw [hi] at e; cases e
    | some y => have := (h.ink _ _ hi).1; omega
  · cases e

/-- All but a slab's own blocks stay. -/
def Oth (b g m : Nat) (w w' : World) : Prop := Mid (fun j => j ≠ b ∧ j ≠ g ∧ j ≠ m) w w'
theorem Oth.refl (b g m : Nat) (w : World) : Oth b g m w w := Mid.refl _ _
theorem Oth.trans {b g m : Nat} {w1 w2 w3 : World} (h : Oth b g m w1 w2) (k : Oth b g m w2 w3) : Oth b g m w1 w3 := Mid.trans h k
theorem Oth.of {b g m : Nat} {w w' : World} (h : Below w.heap.size w w') : Oth b g m w w' := Mid.of h
theorem Oth.size {b g m : Nat} {w w' : World} (h : Oth b g m w w') : w.heap.size ≤ w'.heap.size := Mid.size h
theorem Oth.below {b g m B : Nat} {w w' : World} (h : Oth b g m w w') (hB : B ≤ w.heap.size) (h1 : B ≤ b) (h2 : B ≤ g) (h3 : B ≤ m) : Below B w w' := Mid.below h hB (fun k hk => ⟨by omega, by omega, by omega⟩)
theorem Oth.at_ {b g m : Nat} {w w' : World} (h : Oth b g m w w') {k : Nat} (hk : k < w.heap.size) (h1 : k ≠ b) (h2 : k ≠ g) (h3 : k ≠ m) : w'.heap[k]? = w.heap[k]? := Mid.block h k hk ⟨h1, h2, h3⟩
theorem Oth.set {b g m : Nat} (w : World) (k o : Nat) (v : Value) (hk : k = b ∨ k = g ∨ k = m) : Oth b g m w (w.setCell ⟨k, o, none⟩ v) :=
  ⟨rfl, rfl, rfl, by simp, fun j _ hj => Below.heap_setCell w ⟨k, o, none⟩ v j (fun e => by subst e; rcases hk with h | h | h <;> simp_all)⟩
theorem Oth.grown {b g m k : Nat} {w w' : World} (h : w.grownBy w' (some k)) (hk : k = b ∨ k = g ∨ k = m) : Oth b g m w w' :=
  ⟨h.os, h.tape, h.output, h.size, fun j hj hp => h.block j hj (fun e => by cases e; rcases hk with h | h | h <;> simp_all)⟩
theorem heap_setRow_other (w : World) (g : Nat) (cs : Array Value) {j : Nat} (h : j ≠ g) : (w.setRow g cs).heap[j]? = w.heap[j]? := by
  simp [World.setRow, Array.getElem?_modify, h.symm]
theorem size_setRow (w : World) (g : Nat) (cs : Array Value) : (w.setRow g cs).heap.size = w.heap.size := by simp [World.setRow]
theorem Oth.setRow {b g m : Nat} (w : World) (k : Nat) (cs : Array Value) (hk : k = b ∨ k = g ∨ k = m) : Oth b g m w (w.setRow k cs) :=
  ⟨rfl, rfl, rfl, by rw [size_setRow]; exact Nat.le_refl _, fun j _ hj => heap_setRow_other w k cs (fun e => by subst e; rcases hk with h | h | h <;> simp_all)⟩

theorem SlabAt.lts {w : World} {b g m : Nat} {S : SM} (h : SlabAt w b g m S) : b < w.heap.size ∧ g < w.heap.size ∧ m < w.heap.size :=
  ⟨(Array.getElem?_eq_some_iff.1 h.blk).1, h.row.lt, h.ink.lt⟩
theorem SlabAt.apart {w : World} {b g m : Nat} {S : SM} (h : SlabAt w b g m S) : b ≠ g ∧ b ≠ m ∧ g ≠ m := by
  obtain ⟨es, cl, h1⟩ := h.ink.isMap
  refine ⟨fun e => ?_, fun e => ?_, fun e => ?_⟩
  · have h2 := h.row; unfold Blk at h2; rw [← e, h.blk] at h2; simp only [Option.some.injEq, Obj.cells.injEq] at h2; exact absurd h2.2.1 (by decide)
  · rw [← e, h.blk] at h1; cases h1
  · have h2 := h.row; unfold Blk at h2; rw [e, h1] at h2; cases h2
theorem SlabAt.keep {w w' : World} {b g m : Nat} {S : SM} (h : SlabAt w b g m S) (hb : w'.heap[b]? = w.heap[b]?) (hg : w'.heap[g]? = w.heap[g]?) (hm : w'.heap[m]? = w.heap[m]?) : SlabAt w' b g m S :=
  ⟨h.ok, by rw [hb]; exact h.blk, by unfold Blk; rw [hg]; exact h.row, h.ink.block hm⟩
theorem SlabAt.below {w w' : World} {b g m B : Nat} {S : SM} (h : SlabAt w b g m S) (hb : Below B w w') (h1 : b < B) (h2 : g < B) (h3 : m < B) : SlabAt w' b g m S := h.keep (hb.block b h1) (hb.block g h2) (hb.block m h3)
theorem SlabAt.later {w w' : World} {b g m : Nat} {S : SM} (h : SlabAt w b g m S) (hb : Below w.heap.size w w') : SlabAt w' b g m S := h.below hb h.lts.1 h.lts.2.1 h.lts.2.2
/-- The cells of its fields. -/
theorem SlabAt.cells {w : World} {b g m : Nat} {S : SM} (h : SlabAt w b g m S) : w.cell? ⟨b, 0, none⟩ = some (.slice (some ⟨g, 0, none⟩) S.n S.n) ∧ w.cell? ⟨b, 1, none⟩ = some (.map (some m)) ∧ w.cell? ⟨b, 2, none⟩ = some (.int .i64 S.sup) ∧ w.cell? ⟨b, 3, none⟩ = some (.int .i64 S.made) := by
  simp [World.cell?, h.blk]
theorem SlabAt.free {w : World} {b g m : Nat} {S : SM} (h : SlabAt w b g m S) (o : Nat) : w.frozen? ⟨b, o, none⟩ = false := by simp [World.frozen?, h.blk]

/-- A face in a box of its own, stored over. -/
theorem store_face {w : World} {q : Nat} {old : Array Value} {xs : List Nat} (hq : w.heap[q]? = some (.cells old 66 (0, 0))) (ho : old.size = 64) (hx : xs.length = 64) :
    (storeVar 66 ⟨q, 0, none⟩ (faceV xs)).run Try.prog w = .ok () (w.setRow q (xs.map fun (x : Nat) => Value.int .u8 x).toArray) := by
  refine run_storeVar_row w q _ _ old _ hq (by rw [Try.info_face]; simp [hx]) (by simp [ho, hx]) ?_
  exact ints_one .u8 xs
theorem blk_setRow {w : World} {q : Nat} {old : Array Value} {xs : List Nat} (hq : w.heap[q]? = some (.cells old 66 (0, 0))) : Blk (w.setRow q (xs.map fun (x : Nat) => Value.int .u8 x).toArray) q 66 .u8 xs := by
  unfold Blk
  exact setRow_heap w q _ _ _ _ hq
/-- A store of a face into a box of its own, at the operation: what is told of the world behind it. -/
theorem wpList_store_face {ops : Array Oper} {rest : List Oper} {o : Oper} {a : Act} {w : World} {Q : Exit → Act → World → Prop} (hgd : o.guard = none) (x y : Operand) (ho : o.op = .store 66 x y)
    (q : Nat) (hx : a.eval x = .pointer (some ⟨q, 0, none⟩)) (old : Array Value) (hq : w.heap[q]? = some (.cells old 66 (0, 0))) (hs : old.size = 64) (A : Array Value) (hy : a.eval y = .agg A) (xs : List Nat) (hl : xs.length = 64) (hA : (xs.map fun (x : Nat) => Value.int .u8 x).toArray = A)
    (h : ∀ w', Blk w' q 66 .u8 xs → But q w w' → wpList Try.prog ops Q rest (a.put o.dst undef) w') : wpList Try.prog ops Q (o :: rest) a w := by
  subst hA
  exact wpList_store_val hgd _ x y ho _ hx _ hy (store_face hq hs hl) (h _ (blk_setRow hq) (But.setRow _ _))
/-- .. over a face. -/
theorem wpList_store_face' {ops : Array Oper} {rest : List Oper} {o : Oper} {a : Act} {w : World} {Q : Exit → Act → World → Prop} (hgd : o.guard = none) (x y : Operand) (ho : o.op = .store 66 x y)
    (q : Nat) (hx : a.eval x = .pointer (some ⟨q, 0, none⟩)) (us : List Nat) (hq : Blk w q 66 .u8 us) (hs : us.length = 64) (A : Array Value) (hy : a.eval y = .agg A) (xs : List Nat) (hl : xs.length = 64) (hA : (xs.map fun (x : Nat) => Value.int .u8 x).toArray = A)
    (h : ∀ w', Blk w' q 66 .u8 xs → But q w w' → wpList Try.prog ops Q rest (a.put o.dst undef) w') : wpList Try.prog ops Q (o :: rest) a w :=
  wpList_store_face hgd x y ho q hx _ hq (by simp [hs]) A hy xs hl hA h
/-- A load of a sector's burnt face, at the operation. -/
theorem wpList_load_face {ops : Array Oper} {rest : List Oper} {o : Oper} {a : Act} {w : World} {Q : Exit → Act → World → Prop} (hgd : o.guard = none) (x : Operand) (ho : o.op = .load 66 x)
    (p : Addr) (hx : a.eval x = .pointer (some p)) (A : Array Value) (hl : (loadVar 66 p).run Try.prog w = .ok (.agg A) w)
    (h : wpList Try.prog ops Q rest (a.put o.dst (.agg A)) w) : wpList Try.prog ops Q (o :: rest) a w :=
  wpList_load_val hgd _ x ho p hx _ hl h
/-- A sector's burnt face, loaded. -/
theorem SlabAt.load {w : World} {b g m : Nat} {S : SM} (h : SlabAt w b g m S) {k : Nat} (hk : k < S.n) : (loadVar 66 ⟨g, k * 64, none⟩).run Try.prog w = .ok (faceV (S.bur k)) w := by
  rw [Nat.mul_comm k 64]
  have hr := h.row
  unfold Blk at hr
  refine run_loadVar_part w g (64 * k) _ _ ((S.bur k).map fun (x : Nat) => Value.int .u8 x) _ _ _ hr (fun j v hj => ?_) Try.underlying66 rfl (by rw [Try.info_face]; simp [(h.ok.bur k).1])
  simp only [List.getElem?_map, Option.map_eq_some_iff] at hj
  obtain ⟨y, hy, rfl⟩ := hj
  have hl := (h.ok.bur k).1
  have hj : j < 64 := by have := (List.getElem?_eq_some_iff.1 hy).1; omega
  have := flatF_at (fun j => (h.ok.bur j).1) hj hk
  simp [this, hy]
/-- .. stored. -/
theorem SlabAt.storeRun {w : World} {b g m : Nat} {S : SM} (h : SlabAt w b g m S) {k : Nat} (hk : k < S.n) {xs : List Nat} (hx : xs.length = 64) :
    (storeVar 66 ⟨g, k * 64, none⟩ (faceV xs)).run Try.prog w = .ok () (w.setRow g ((flatF S.n (fun j => if j = k then xs else S.bur j)).map fun (x : Nat) => Value.int .u8 x).toArray) := by
  rw [Nat.mul_comm k 64]
  have hr := h.row
  unfold Blk at hr
  have hl := flatF_len (fun j => (h.ok.bur j).1) S.n
  have := run_storeVar_part (P := Try.prog) w g (64 * k) _ 66 ((flatF S.n S.bur).map fun (x : Nat) => Value.int .u8 x) (xs.map fun (x : Nat) => Value.int .u8 x) hr (by rw [Try.info_face]; simp [hx]) (by simp [hl, hx]; omega) (faces_one xs)
  rw [← flatF_set (fun j => (h.ok.bur j).1) hx hk]
  simp only [List.map_append, List.map_take, List.map_drop]
  simpa [faceV, hx] using this
theorem SlabAt.stored {w : World} {b g m : Nat} {S : SM} (h : SlabAt w b g m S) {k : Nat} {xs : List Nat} (hx : xs.length = 64) (h8 : Bytes8 xs) :
    SlabAt (w.setRow g ((flatF S.n (fun j => if j = k then xs else S.bur j)).map fun (x : Nat) => Value.int .u8 x).toArray) b g m { S with bur := fun j => if j = k then xs else S.bur j } := by
  obtain ⟨h1, h2, h3⟩ := h.apart
  have hr := h.row
  unfold Blk at hr
  refine ⟨⟨h.ok.n4, h.ok.n4096, fun j => ?_, h.ok.ink, h.ok.sup, h.ok.made⟩, ?_, ?_, ?_⟩
  · show (if j = k then xs else S.bur j).length = 64 ∧ Bytes8 (if j = k then xs else S.bur j)
    split
    · exact ⟨hx, h8⟩
    · exact h.ok.bur j
  · rw [heap_setRow_other _ _ _ h1]; exact h.blk
  · unfold Blk
    exact setRow_heap w g _ _ _ _ hr
  · exact h.ink.block (heap_setRow_other _ _ _ (fun e => h3 e.symm))

theorem inkF_some {S : SM} {k : Nat} {x : List Nat} (h : S.ink k = some x) : inkF S (k : Int) = some (faceV x) := by simp [inkF, h]
theorem inkF_none {S : SM} {k : Nat} (h : S.ink k = none) : inkF S (k : Int) = none := by simp [inkF, h]

end Go.Proofs.Ytpodoleopebioaa
