/- The document's table. -/
import Derived.Test.YtgpkkcielpogoaaDoorShaD
import Derived.Test.YtgpkkcielpogoaaDoorShaT
import Derived.Laws.Rows
namespace Go.Proofs.YtgpkkcielpogoaaDoor
open Go Go.RowKit

/-- Words as cells. -/
def w32 (l : List Nat) : Array Value := (l.map fun (x : Nat) => Value.int .u32 (x : Int)).toArray
theorem w32_one (l : List Nat) : (w32 l).all (·.oneCell') = true := ints_one .u32 l
theorem w32_size (l : List Nat) : (w32 l).size = l.length := by simp [w32]
theorem info_w64 {l : List Nat} (h : l.length = 64) : (Tryd.prog.info? 33).map (·.size) = some (w32 l).size := by rw [w32_size, h]; kernel_rfl
theorem info_w8 {l : List Nat} (h : l.length = 8) : (Tryd.prog.info? 34).map (·.size) = some (w32 l).size := by rw [w32_size, h]; kernel_rfl

/-- An array that is built, its cells known. -/
theorem wpList_built {P : Program} {w : World} {ops : Array Oper} {rest : List Oper} {o : Oper} {a : Act} {Q : Exit → Act → World → Prop} (hgd : o.guard = none) (t : TypeId) (parts : Array (Nat × Operand)) (ho : o.op = .build t parts) (C : Array Value)
    (hf : P.built t (parts.map fun (i, x) => (i, a.eval x)).toList = some C)
    (h : wpList P ops Q rest (a.put o.dst (.agg C)) w) : wpList P ops Q (o :: rest) a w :=
  wpList_build hgd t parts ho (by rw [hf]; rfl) (by rw [hf]; exact h)

theorem results2 {P : Program} {fn : Func} {p1 p2 : Tmp} {t1 t2 : TypeId} (h : fn.results = #[.cell p1 t1, .cell p2 t2]) (tmps : Array Value) (w : World) (g1 g2 : Nat) (e1 e2 : TypeId) (c1 c2 : Array Value) (f1 f2 : Nat × Nat) (d1 d2 : TypeDesc)
    (hp1 : tmps.getD p1 undef = .pointer (some ⟨g1, 0, none⟩)) (hp2 : tmps.getD p2 undef = .pointer (some ⟨g2, 0, none⟩)) (hg1 : w.heap[g1]? = some (.cells c1 e1 f1)) (hg2 : w.heap[g2]? = some (.cells c2 e2 f2))
    (hu1 : P.underlying t1 = some d1) (hd1 : (match d1 with | .struct _ | .array _ _ => true | _ => false) = true) (hi1 : (P.info? t1).map (·.size) = some c1.size)
    (hu2 : P.underlying t2 = some d2) (hd2 : (match d2 with | .struct _ | .array _ _ => true | _ => false) = true) (hi2 : (P.info? t2).map (·.size) = some c2.size) :
    (results fn tmps).run P w = .ok (.tuple #[.agg c1, .agg c2]) w := by
  have h1 : tmps[p1]?.getD undef = .pointer (some ⟨g1, 0, none⟩) := by simpa using hp1
  have h2 : tmps[p2]?.getD undef = .pointer (some ⟨g2, 0, none⟩) := by simpa using hp2
  simp [results, h, h1, h2, asAddr, run_loadVar_row w g1 e1 t1 c1 f1 d1 hg1 hu1 hd1 hi1, run_loadVar_row w g2 e2 t2 c2 f2 d2 hg2 hu2 hd2 hi2]

theorem zero_w64 : (List.replicate 64 (0 : Nat)).length = 64 := by simp
theorem zeros_w (n : Nat) : zeros .u32 n = w32 (List.replicate n 0) := rfl

set_option maxHeartbeats 4000000 in
set_option maxRecDepth 100000 in
theorem table_calls (w : World) : Calls Tryd.prog 11 #[] w fun e w' => e = .returned (.tuple #[.agg (w32 kays), .agg (w32 hnull)]) ∧ Below w.heap.size w w' := by
  have hI64 : Hold _ := ⟨info_w64 kays_length⟩
  have hI8 : Hold _ := ⟨info_w8 hnull_length⟩
  have hW : Hold (Below w.heap.size w ((w.alloc (.cells (zeros .u32 64) 33)).alloc (.cells (zeros .u32 8) 34))) := ⟨((Below.refl _ _).alloc (Nat.le_refl _) _).alloc (by simp) _⟩
  have hG0 : Hold (((w.alloc (.cells (zeros .u32 64) 33)).alloc (.cells (zeros .u32 8) 34)).heap[w.heap.size]? = some (.cells (zeros .u32 64) 33 (0, 0))) := ⟨heap_alloc2_old w _ _⟩
  have hG1 : Hold (((w.alloc (.cells (zeros .u32 64) 33)).alloc (.cells (zeros .u32 8) 34)).heap[w.heap.size + 1]? = some (.cells (zeros .u32 8) 34 (0, 0))) := ⟨by
    have := heap_alloc_new (w.alloc (.cells (zeros .u32 64) 33)) (.cells (zeros .u32 8) 34)
    rw [show (w.alloc (.cells (zeros .u32 64) 33)).heap.size = w.heap.size + 1 by simp] at this
    exact this⟩
  go_enter Tryd.func11, Tryd.ntmps11
  go_wp2_with (first
    | (refine wpList_built rfl 33 _ rfl (w32 kays) (by kernel_rfl) ?_)
    | (refine wpList_built rfl 34 _ rfl (w32 hnull) (by kernel_rfl) ?_)
    | (refine wpList_store_row rfl 33 _ _ rfl w.heap.size (w32 kays) rfl rfl 33 (zeros .u32 64) hG0.out hI64.out rfl (w32_one kays) ?_)
    | (refine wpList_store_row rfl 34 _ _ rfl (w.heap.size + 1) (w32 hnull) rfl rfl 34 (zeros .u32 8) ((setRow_other _ w.heap.size (w.heap.size + 1) _ (by omega)).trans hG1.out) hI8.out rfl (w32_one hnull) ?_))
  have g0 := setRow_heap _ w.heap.size (zeros .u32 64) (w32 kays) 33 (0, 0) hG0.out
  have o1 := (setRow_other _ w.heap.size (w.heap.size + 1) (w32 kays) (by omega)).trans hG1.out
  have g1 := setRow_heap _ (w.heap.size + 1) (zeros .u32 8) (w32 hnull) 34 (0, 0) o1
  have g2 := (setRow_other _ (w.heap.size + 1) w.heap.size (w32 hnull) (by omega)).trans g0
  exact bodyPost_ret (v := .tuple #[.agg (w32 kays), .agg (w32 hnull)]) (results2 Tryd.results11 _ _ w.heap.size (w.heap.size + 1) 33 34 _ _ (0, 0) (0, 0) _ _ rfl rfl g2 g1 Tryd.underlying33 rfl hI64.out Tryd.underlying34 rfl hI8.out) rfl
    ⟨rfl, below_setRow (below_setRow hW.out (Nat.le_refl _) _) (by omega) _⟩
end Go.Proofs.YtgpkkcielpogoaaDoor
