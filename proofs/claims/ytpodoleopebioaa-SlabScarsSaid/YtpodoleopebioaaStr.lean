/- Bytes as a string. -/
import Derived.Test.YtpodoleopebioaaGen
import Derived.Laws.BytesArg
import Derived.Laws.BytesString
import Derived.WideShapes
namespace Go.Proofs.Ytpodoleopebioaa
open Go Go.RowKit
set_option maxRecDepth 100000

/-- Bytes as a string. -/
def strOf (bs : List Nat) : ByteArray := strOfNums (bs.map fun (x : Nat) => (x : Int))

theorem convert_row {w : World} {p : Option Addr} {n c : Nat} {bs : List Nat} (h : Row w .u8 p n c bs) :
    (convert 26 9 (.slice p n c)).run Try.prog w = .ok (.string (strOf bs)) w := by
  rcases h.at_ with ⟨rfl, rfl, rfl⟩ | ⟨b, off, rfl, hb, hc⟩
  · have hl := h.len
    have : bs = [] := List.eq_nil_of_length_eq_zero hl.symm
    subst this
    rw [run_convert_bytes_nil w 26 5 (by kernel_rfl) (by kernel_rfl) _ _ _ (by kernel_rfl)]
    rfl
  · refine run_convert_bytes_arg w 26 5 (by kernel_rfl) (by kernel_rfl) b off n c _ (by simp [h.len]) ?_ _ (by kernel_rfl)
    intro i hi
    have hl := h.len
    rw [hc i (bs.getD i 0) (by rw [List.getD_eq_getElem?_getD]; simp [show i < bs.length by omega])]
    simp [List.getD_eq_getElem?_getD, show i < bs.length by omega]

theorem strOf_nil : strOf [] = ByteArray.empty := rfl

theorem convert_empty (w : World) (p : Option Addr) (c : Nat) : (convert 26 9 (.slice p 0 c)).run Try.prog w = .ok (.string (strOf [])) w := by
  rw [run_convert_bytes_string w 26 9 5 p 0 c (by kernel_rfl) (by kernel_rfl) (by kernel_rfl)]
  cases p with
  | none => rfl
  | some a => rfl

theorem convert_in {w : World} {p : Option Addr} {n c : Nat} {bs : List Nat} (h : RowIn w .u8 p n c bs) :
    (convert 26 9 (.slice p n c)).run Try.prog w = .ok (.string (strOf bs)) w := by
  rcases Nat.eq_zero_or_pos n with rfl | h0
  · have : bs = [] := List.eq_nil_of_length_eq_zero h.len.symm
    rw [this]
    exact convert_empty w p c
  · exact convert_row (h.row h0)

/-- The texts of bytes are the same where the bytes are. -/
theorem strOf_eq {a b : List Nat} (ha : Bytes8 a) (hb : Bytes8 b) : strOf a = strOf b ↔ a = b := by
  refine ⟨fun h => ?_, fun h => by rw [h]⟩
  have h1 : (strOf a).data.toList = (strOf b).data.toList := by rw [h]
  unfold strOf at h1
  rw [strOfNums_data, strOfNums_data, List.map_map, List.map_map] at h1
  have key : ∀ (xs ys : List Nat), Bytes8 xs → Bytes8 ys → (xs.map ((fun n : Int => UInt8.ofNat n.toNat) ∘ fun (x : Nat) => (x : Int))) = (ys.map ((fun n : Int => UInt8.ofNat n.toNat) ∘ fun (x : Nat) => (x : Int))) → xs = ys := by
    intro xs
    induction xs with
    | nil => intro ys _ _ e; cases ys with
      | nil => rfl
      | cons y ys => simp at e
    | cons x xs ih => intro ys hx hy e; cases ys with
      | nil => simp at e
      | cons y ys =>
        simp only [List.map_cons, List.cons.injEq, Function.comp_apply, Int.toNat_natCast] at e
        have e1 := congrArg UInt8.toNat e.1
        rw [UInt8.toNat_ofNat', UInt8.toNat_ofNat', Nat.mod_eq_of_lt (hx x (by simp)), Nat.mod_eq_of_lt (hy y (by simp))] at e1
        rw [e1, ih ys (fun z hz => hx z (by simp [hz])) (fun z hz => hy z (by simp [hz])) e.2]
  exact key a b ha hb h1

theorem strOf_beq {a b : List Nat} (ha : Bytes8 a) (hb : Bytes8 b) : ((strOf a).toList == (strOf b).toList) = decide (a = b) := by
  rw [Bool.eq_iff_iff, beq_iff_eq, decide_eq_true_iff, ByteArray.toList_eq, ByteArray.toList_eq, ← strOf_eq ha hb]
  refine ⟨fun h => ?_, fun h => by rw [h]⟩
  exact WideShapes.bytes_inj h
end Go.Proofs.Ytpodoleopebioaa
