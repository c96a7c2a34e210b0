/- The roots are the table's numbers: reckoned by the kernel. -/
import Derived.Test.YtgpkkcielpogoaaDoorFixM
import Derived.Test.YtgpkkcielpogoaaDoorShaT
namespace Go.Proofs.YtgpkkcielpogoaaDoor
open Go Go.RowKit
set_option maxRecDepth 100000 in
theorem laid_64 : laid 64 3 64 = kays := by kernel_rfl
set_option maxRecDepth 100000 in
theorem laid_8 : laid 8 2 8 = hnull := by kernel_rfl
end Go.Proofs.YtgpkkcielpogoaaDoor
