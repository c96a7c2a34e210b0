/- The document's words of the sum: a word turned; choice and majority by 'or'. -/
import Derived.Test.YtgpkkcielpogoaaDoorShaR
namespace Go.Proofs.YtgpkkcielpogoaaDoor
open Go Go.RowKit

theorem not_bit {e : Nat} (he : e < 4294967296) (i : Nat) : (4294967295 - e).testBit i = (decide (i < 32) && !e.testBit i) := by
  have h := Nat.testBit_two_pow_sub_succ (n := 32) (x := e) (by omega) i
  rw [← h]
  congr 1
  omega

theorem ch_or {e f g : Nat} (he : e < 4294967296) : e &&& f ||| (4294967295 - e) &&& g = ch e f g := by
  unfold ch
  refine Nat.eq_of_testBit_eq fun i => ?_
  simp only [Nat.testBit_or, Nat.testBit_xor, Nat.testBit_and, not_bit he]
  cases e.testBit i <;> cases f.testBit i <;> cases g.testBit i <;> simp

theorem maj_or (a b c : Nat) : a &&& b ||| a &&& c ||| b &&& c = maj a b c := by
  unfold maj
  refine Nat.eq_of_testBit_eq fun i => ?_
  simp only [Nat.testBit_or, Nat.testBit_xor, Nat.testBit_and]
  cases a.testBit i <;> cases b.testBit i <;> cases c.testBit i <;> rfl

theorem turn_calls (w : World) (x n : Nat) (hx : x < 4294967296) (h1 : 1 ≤ n) (h2 : n ≤ 31) :
    Calls Tryd.prog 24 #[.int .u32 x, .int .u64 n] w fun e w' => e = .returned (.int .u32 (rr x n)) ∧ w' = w := by
  go_enter Tryd.func24, Tryd.ntmps24
  go_wp2
  go_ret
  refine ⟨?_, rfl⟩
  have e1 : (x : Int) * 2 ^ (32 - n) % 4294967296 = ((x * 2 ^ (32 - n) % 4294967296 : Nat) : Int) := by rw [Int.natCast_emod, Int.natCast_mul, Int.natCast_pow]; rfl
  have e2 : (x : Int) / 2 ^ n = ((x / 2 ^ n : Nat) : Int) := by rw [Int.natCast_ediv, Int.natCast_pow]; rfl
  have e3 := u32_or_nat (x / 2 ^ n) (x * 2 ^ (32 - n) % 4294967296) (Nat.lt_of_le_of_lt (Nat.div_le_self _ _) hx) (Nat.mod_lt _ (by omega))
  show Ending.returned (.int .u32 (bits BinOp.or IntKind.u32 ((x : Int) / 2 ^ n) ((x : Int) * 2 ^ (32 - n) % 4294967296))) = _
  rw [e1, e2, e3, Nat.or_comm]
  rfl
end Go.Proofs.YtgpkkcielpogoaaDoor
