/- What the row of DealAdds asks of the program as it stands, fact by fact. -/
import Derived.Test.YtokhckjemidbpaaGreatDoorCards
import Derived.Test.YtokhckjemidbpaaGreatDoorTie
import Derived.Deep.DeepHandedRow
import Derived.Lib.LaidTab
import Derived.WalkKit
import Derived.ProofKit
import Derived.OpenShut
import Derived.ShutString
import Derived.ChangeOld
import Derived.Below
import Derived.Deep.Matrix
import Derived.Deep.Grids

namespace Go.Proofs.YtokhckjemidbpaaGreatDoor.dealAdds
open Go.ChangeShapes Go.WideShapes Go.ChangeAt Go.RowKit
open Go.ChangeMaps (open_string shut_string)
set_option linter.unusedVariables false
set_option maxRecDepth 1000000

theorem and_tt {a b : Bool} (ha : a = true) (hb : b = true) : (a && b) = true := by rw [ha, hb]; rfl
theorem c_laid : laidOutB Tryz.pinned.checked.prog = true := by kernel_rfl
theorem c_maps : mapsRowed Tryz.pinned.checked.prog = true := by kernel_rfl
theorem c_inpl : (Rows.dealAddsRow.inPlace == Tryz.pinned.checked.prog.inPlace 12) = true := by kernel_rfl
theorem c_unf : (Rows.dealAddsRow.unfollowed == Tryz.pinned.checked.prog.unfollowed 12) = true := by kernel_rfl
theorem c_rec : (Rows.dealAddsRow.recurses == Tryz.pinned.checked.prog.recurses 12) = true := by kernel_rfl
theorem c_named : (Rows.dealAddsRow.named == Tryz.pinned.checked.prog.varsNamed 12) = true := by kernel_rfl
theorem c_lift : (Rows.dealAddsRow.lifted == Tryz.pinned.checked.prog.liftsFinal) = true := by kernel_rfl
theorem c_heard : Tryz.pinned.checked.prog.stopsHeard = true := by kernel_rfl
theorem c_make : (Tryz.pinned.checked.prog.make == some Rows.dealAddsRow.make) = true := by kernel_rfl
theorem closed : joinedFacts Tryz.pinned.checked.prog 12 Tryz.f12 (OpenSpec.ofChange Rows.dealAddsSpec).bare Rows.dealAddsRow = true := by
  unfold joinedFacts
  repeat' with_reducible refine and_tt ?_ ?_
  all_goals first | (with_reducible exact c_laid) | (with_reducible exact c_maps) | (with_reducible exact c_inpl) | (with_reducible exact c_unf) | (with_reducible exact c_rec) | (with_reducible exact c_named) | (with_reducible exact c_lift) | (with_reducible exact c_heard) | (with_reducible exact c_make) | kernel_rfl

end Go.Proofs.YtokhckjemidbpaaGreatDoor.dealAdds
