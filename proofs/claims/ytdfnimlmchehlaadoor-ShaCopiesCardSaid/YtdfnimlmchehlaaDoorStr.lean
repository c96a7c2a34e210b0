/- Bytes as a string. -/
import Derived.Test.YtdfnimlmchehlaaDoorGen
import Derived.Laws.BytesArg
import Derived.Laws.BytesString
namespace Go.Proofs.YtdfnimlmchehlaaDoor
open Go Go.RowKit

/-- Bytes as a string. -/
def strOf (bs : List Nat) : ByteArray := strOfNums (bs.map fun (x : Nat) => (x : Int))

theorem convert_row {w : World} {p : Option Addr} {n c : Nat} {bs : List Nat} (h : Row w .u8 p n c bs) :
    (convert 22 9 (.slice p n c)).run Tryd.prog w = .ok (.string (strOf bs)) w := by
  rcases h.at_ with ⟨rfl, rfl, rfl⟩ | ⟨b, off, rfl, hb, hc⟩
  · have hl := h.len
    have : bs = [] := List.eq_nil_of_length_eq_zero hl.symm
    subst this
    rw [run_convert_bytes_nil w 22 5 (by kernel_rfl) (by kernel_rfl) _ _ _ (by kernel_rfl)]
    rfl
  · refine run_convert_bytes_arg w 22 5 (by kernel_rfl) (by kernel_rfl) b off n c _ (by simp [h.len]) ?_ _ (by kernel_rfl)
    intro i hi
    have hl := h.len
    rw [hc i (bs.getD i 0) (by rw [List.getD_eq_getElem?_getD]; simp [show i < bs.length by omega])]
    simp [List.getD_eq_getElem?_getD, show i < bs.length by omega]

theorem strOf_nil : strOf [] = ByteArray.empty := rfl

theorem convert_empty (w : World) (p : Option Addr) (c : Nat) : (convert 22 9 (.slice p 0 c)).run Tryd.prog w = .ok (.string (strOf [])) w := by
  rw [run_convert_bytes_string w 22 9 5 p 0 c (by kernel_rfl) (by kernel_rfl) (by kernel_rfl)]
  cases p with
  | none => rfl
  | some a => rfl

theorem convert_in {w : World} {p : Option Addr} {n c : Nat} {bs : List Nat} (h : RowIn w .u8 p n c bs) :
    (convert 22 9 (.slice p n c)).run Tryd.prog w = .ok (.string (strOf bs)) w := by
  rcases Nat.eq_zero_or_pos n with rfl | h0
  · have : bs = [] := List.eq_nil_of_length_eq_zero h.len.symm
    rw [this]
    exact convert_empty w p c
  · exact convert_row (h.row h0)

end Go.Proofs.YtdfnimlmchehlaaDoor
