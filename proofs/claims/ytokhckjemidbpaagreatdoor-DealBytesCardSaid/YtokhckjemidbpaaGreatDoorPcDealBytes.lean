/- What the row of DealBytes asks of the program as it stands, fact by fact. -/
import Derived.Test.YtokhckjemidbpaaGreatDoorCards
import Derived.Test.YtokhckjemidbpaaGreatDoorTie
import Derived.Deep.DeepHandedRow
import Derived.Lib.LaidTab
import Derived.WalkKit
import Derived.ProofKit
import Derived.OpenShut
import Derived.ShutString
import Derived.ChangeOld
import Derived.Below
import Derived.Deep.Matrix
import Derived.Deep.Grids

namespace Go.Proofs.YtokhckjemidbpaaGreatDoor.dealBytes
open Go.ChangeShapes Go.WideShapes Go.ChangeAt Go.RowKit
open Go.ChangeMaps (open_string shut_string)
set_option linter.unusedVariables false
set_option maxRecDepth 1000000

theorem and_tt {a b : Bool} (ha : a = true) (hb : b = true) : (a && b) = true := by rw [ha, hb]; rfl
theorem c_laid : laidOutB Tryz.pinned.checked.prog = true := by kernel_rfl
theorem c_maps : mapsRowed Tryz.pinned.checked.prog = true := by kernel_rfl
theorem c_inpl : (Rows.dealBytesRow.inPlace == Tryz.pinned.checked.prog.inPlace 11) = true := by kernel_rfl
theorem c_unf : (Rows.dealBytesRow.unfollowed == Tryz.pinned.checked.prog.unfollowed 11) = true := by kernel_rfl
theorem c_rec : (Rows.dealBytesRow.recurses == Tryz.pinned.checked.prog.recurses 11) = true := by kernel_rfl
theorem c_named : (Rows.dealBytesRow.named == Tryz.pinned.checked.prog.varsNamed 11) = true := by kernel_rfl
theorem c_lift : (Rows.dealBytesRow.lifted == Tryz.pinned.checked.prog.liftsFinal) = true := by kernel_rfl
theorem c_heard : Tryz.pinned.checked.prog.stopsHeard = true := by kernel_rfl
theorem c_make : (Tryz.pinned.checked.prog.make == some Rows.dealBytesRow.make) = true := by kernel_rfl
theorem closed : joinedFacts Tryz.pinned.checked.prog 11 Tryz.f11 (OpenSpec.ofChange Rows.dealBytesSpec).bare Rows.dealBytesRow = true := by
  unfold joinedFacts
  repeat' with_reducible refine and_tt ?_ ?_
  all_goals first | (with_reducible exact c_laid) | (with_reducible exact c_maps) | (with_reducible exact c_inpl) | (with_reducible exact c_unf) | (with_reducible exact c_rec) | (with_reducible exact c_named) | (with_reducible exact c_lift) | (with_reducible exact c_heard) | (with_reducible exact c_make) | kernel_rfl

end Go.Proofs.YtokhckjemidbpaaGreatDoor.dealBytes
