/- Two arrays of words with the same words. -/
import Derived.Test.YtgpkkcielpogoaaDoorRefT
import Derived.ChangeKeysEq
namespace Go.Proofs.YtgpkkcielpogoaaDoor
open Go Go.RowKit

section
variable {P : Program} (w : World)
theorem run_equalIn_w32 (d : Nat) (t e : TypeId) (n : Nat) (ht : P.underlying t = some (.array n e)) (he : P.underlying e = some (.int .u32)) (hsz : ∀ w, (sizeOf e).run P w = .ok 1 w) (l : List Nat) (hl : l.length = n) :
    (Op.equalIn (d + 2) t (.agg (w32 l)) (.agg (w32 l))).run P w = .ok true w := by
  rw [Op.equalIn]
  simp only [Sem.run_bind, run_underlying ht, Result.andThen_ok, hsz, Std.Legacy.Range.forIn_eq_forIn_range', Std.Legacy.Range.size, Nat.sub_zero, Nat.add_sub_cancel, Nat.div_one]
  have hr : ∀ i ∈ List.range' 0 n 1, i < n := fun i hi => by simpa using (List.mem_range'_1.1 hi).2
  generalize List.range' 0 n 1 = r at hr ⊢
  induction r with
  | nil => simp
  | cons i r ih =>
    have hi : i < n := hr i (by simp)
    have px : (part e (w32 l) (i * 1)).run P w = .ok (.int .u32 ((l.getD i 0 : Nat) : Int)) w := by
      simp [part, isAgg, run_underlying he, w32, List.getD, List.getElem?_eq_getElem (show i < l.length by omega)]
    have pe : (Op.equalIn (d + 1) e (.int .u32 ((l.getD i 0 : Nat) : Int)) (.int .u32 ((l.getD i 0 : Nat) : Int))).run P w = .ok true w := by
      rw [run_equalIn_int w d e .u32 .u32 _ _ he]
      simp
    simp only [List.forIn_cons, Sem.run_bind, px, pe, Result.andThen_ok]
    simp only [Bool.not_true, Bool.false_eq_true, if_false, Sem.run_pure, Result.andThen_ok]
    exact ih fun j hj => hr j (by simp [hj])

end

theorem Tryd.info_u32y : (Tryd.prog.info? 32).map (fun i => (i.zero, i.size, i.bytes)) = some (some (.int .u32 0), 1, 4) := by kernel_rfl
theorem sizeOf_u32 (w : World) : (sizeOf 32).run Tryd.prog w = .ok 1 w := by
  obtain ⟨i, hi, _, _, _⟩ := info_parts Tryd.info_u32y
  rw [run_sizeOf w hi, show Tryd.prog.cellsOf 32 = 1 by kernel_rfl]
theorem same_w64 (w : World) (l : List Nat) (hl : l.length = 64) : (Op.equalIn 10000 33 (.agg (w32 l)) (.agg (w32 l))).run Tryd.prog w = .ok true w :=
  run_equalIn_w32 w 9998 33 32 64 Tryd.underlying33 Tryd.underlying32 sizeOf_u32 l hl
theorem same_w8 (w : World) (l : List Nat) (hl : l.length = 8) : (Op.equalIn 10000 34 (.agg (w32 l)) (.agg (w32 l))).run Tryd.prog w = .ok true w :=
  run_equalIn_w32 w 9998 34 32 8 Tryd.underlying34 Tryd.underlying32 sizeOf_u32 l hl
theorem noguard_w64 : Tryd.prog.eqGuardType Tryd.prog.depth 33 = false := by kernel_rfl
theorem noguard_w8 : Tryd.prog.eqGuardType Tryd.prog.depth 34 = false := by kernel_rfl

/-- What the sums of the examples have at their ends, reckoned by the kernel. -/
def abc : List Nat := [97, 98, 99]
def abcd : List Nat := [97, 98, 99, 100, 98, 99, 100, 101, 99, 100, 101, 102, 100, 101, 102, 103, 101, 102, 103, 104, 102, 103, 104, 105, 103, 104, 105, 106, 104, 105, 106, 107, 105, 106, 107, 108, 106, 107, 108, 109, 107, 108, 109, 110, 108, 109, 110, 111, 109, 110, 111, 112, 110, 111, 112, 113]
set_option maxRecDepth 100000 in
theorem abc_sum : (sha abc)[0]? = some 186 ∧ (sha abc)[31]? = some 173 := by
  have h : sha abc = [186, 120, 22, 191, 143, 1, 207, 234, 65, 65, 64, 222, 93, 174, 34, 35, 176, 3, 97, 163, 150, 23, 122, 156, 180, 16, 255, 97, 242, 0, 21, 173] := by kernel_rfl
  rw [h]; exact ⟨rfl, rfl⟩
set_option maxRecDepth 100000 in
theorem abcd_sum : (sha abcd)[0]? = some 36 ∧ (sha abcd)[31]? = some 193 := by
  have h : sha abcd = [36, 141, 106, 97, 210, 6, 56, 184, 229, 192, 38, 147, 12, 62, 96, 57, 163, 60, 228, 89, 100, 255, 33, 103, 246, 236, 237, 212, 25, 219, 6, 193] := by kernel_rfl
  rw [h]; exact ⟨rfl, rfl⟩
end Go.Proofs.YtgpkkcielpogoaaDoor
