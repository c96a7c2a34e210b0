/- Slices of slices, and slices of bools, that came in. -/
import Derived.Test.YtcbhgfiafamflaaGreatDoorFit
set_option maxRecDepth 1000000
set_option maxHeartbeats 16000000
namespace Go.Proofs.YtcbhgfiafamflaaGreatDoor
open Go Go.RowKit
def Whole0 (L : List Part) : Prop := ∀ P ∈ L, P.p = none → P.c = 0
end Go.Proofs.YtcbhgfiafamflaaGreatDoor
