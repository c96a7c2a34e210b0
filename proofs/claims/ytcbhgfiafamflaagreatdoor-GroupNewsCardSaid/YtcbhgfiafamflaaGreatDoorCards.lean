/-
  DERIVED. GIVEN WITH THE SEED: THE CARDS: each row of YtcbhgfiafamflaaGreatDoorRows.lean that lists a variable, with what it lists TIED to the program's text (the seventh form; the later family's looks); each row that meets fmt, with fmt's text TOLD by the authors' own Lean function (tested against real Go, not proved from fmt's source: count such statements apart). THE CARD IS WHAT COUNTS. Prove the row's statement (the work); the ties are given (YtcbhgfiafamflaaGreatDoorTie.lean); close each card by the builder's one call (the guide's Derived/Test/ToyasCard.lean, 'card_holds'). Laid BY PROGRAM, IN A SANDBOX (cutbox-door.mjs). By AI agents, Wed Nov 11 2026. No macro, syntax, notation, axiom, sorry.
-/
import Derived.Test.YtcbhgfiafamflaaGreatDoorRows
import GoSem.ClaimSeven
namespace Go.Proofs.YtcbhgfiafamflaaGreatDoor
namespace Rows

/-- THE TIED CARD OF 'sacristylaw09.GroupNews'. -/
def groupNewsCard : Claim7 := { stood := { row := groupNewsRow, standIns := [], harness := (true, "ce856a2196e2c90355a885fc4bcf55d7e3ad309906b2eb3b95e9123bff80d34c"), looks := false }, kinds := [], alts := [], laidByText := true, laidKinds := [.data, .data], laidTests := true, laidLooks := .later }
def GroupNewsCardSaid : Prop := Claim7.holds Tryz.pinned (.plain (OpenSpec.ofChange groupNewsSpec)) groupNewsCard

/-- THE TIED CARD OF 'sacristylaw09.GroupMultis'. -/
def groupMultisCard : Claim7 := { stood := { row := groupMultisRow, standIns := [], harness := (true, "ce856a2196e2c90355a885fc4bcf55d7e3ad309906b2eb3b95e9123bff80d34c"), looks := false }, kinds := [], alts := [], laidByText := true, laidKinds := [.data, .data], laidTests := true, laidLooks := .later }
def GroupMultisCardSaid : Prop := Claim7.holds Tryz.pinned (.plain (OpenSpec.ofChange groupMultisSpec)) groupMultisCard

/-- THE TIED CARD OF 'sacristylaw09.GroupAsks'. -/
def groupAsksCard : Claim7 := { stood := { row := groupAsksRow, standIns := [], harness := (true, "ce856a2196e2c90355a885fc4bcf55d7e3ad309906b2eb3b95e9123bff80d34c"), looks := false }, kinds := [], alts := [], laidByText := true, laidKinds := [.data, .data], laidTests := true, laidLooks := .later }
def GroupAsksCardSaid : Prop := Claim7.holds Tryz.pinned (.plain (OpenSpec.ofChange groupAsksSpec)) groupAsksCard

/-- THE SECOND FORM's CARD OF 'sacristylaw09.GroupNews'. -/
def groupNewsUptoCard : Claim7 := { stood := { row := groupNewsUptoRow, standIns := [], harness := (true, "ce856a2196e2c90355a885fc4bcf55d7e3ad309906b2eb3b95e9123bff80d34c"), looks := false }, kinds := [], alts := [], laidByText := true, laidKinds := [.data, .data], laidTests := true, laidLooks := .later }
def GroupNewsUptoCardSaid : Prop := Claim7.holds Tryz.pinned (.plain (OpenSpec.upto groupNewsSpec)) groupNewsUptoCard

/-- THE SECOND FORM's CARD OF 'sacristylaw09.GroupMultis'. -/
def groupMultisUptoCard : Claim7 := { stood := { row := groupMultisUptoRow, standIns := [], harness := (true, "ce856a2196e2c90355a885fc4bcf55d7e3ad309906b2eb3b95e9123bff80d34c"), looks := false }, kinds := [], alts := [], laidByText := true, laidKinds := [.data, .data], laidTests := true, laidLooks := .later }
def GroupMultisUptoCardSaid : Prop := Claim7.holds Tryz.pinned (.plain (OpenSpec.upto groupMultisSpec)) groupMultisUptoCard

/-- THE SECOND FORM's CARD OF 'sacristylaw09.GroupAsks'. -/
def groupAsksUptoCard : Claim7 := { stood := { row := groupAsksUptoRow, standIns := [], harness := (true, "ce856a2196e2c90355a885fc4bcf55d7e3ad309906b2eb3b95e9123bff80d34c"), looks := false }, kinds := [], alts := [], laidByText := true, laidKinds := [.data, .data], laidTests := true, laidLooks := .later }
def GroupAsksUptoCardSaid : Prop := Claim7.holds Tryz.pinned (.plain (OpenSpec.upto groupAsksSpec)) groupAsksUptoCard
end Rows
end Go.Proofs.YtcbhgfiafamflaaGreatDoor
