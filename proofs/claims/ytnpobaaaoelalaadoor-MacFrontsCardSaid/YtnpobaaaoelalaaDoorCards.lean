/-
  DERIVED. GIVEN WITH THE SEED: THE CARDS: each row of YtnpobaaaoelalaaDoorRows.lean that lists a variable, with what it lists TIED to the program's text (the seventh form; the later family's looks); each row that meets fmt, with fmt's text TOLD by the authors' own Lean function (tested against real Go, not proved from fmt's source: count such statements apart). THE CARD IS WHAT COUNTS. Prove the row's statement (the work); the ties are given (YtnpobaaaoelalaaDoorTie.lean); close each card by the builder's one call (the guide's Derived/Test/ToyasCard.lean, 'card_holds'). Laid BY PROGRAM, IN A SANDBOX (cutbox-door.mjs). By AI agents, Wed Nov 11 2026. No macro, syntax, notation, axiom, sorry.
-/
import Derived.Test.YtnpobaaaoelalaaDoorRows
import GoSem.ClaimSeven
namespace Go.Proofs.YtnpobaaaoelalaaDoor
namespace Rows

/-- THE TIED CARD OF 'sacristylaw03.ShaParts'. -/
def shaPartsCard : Claim7 := { stood := { row := shaPartsRow, standIns := [], harness := (true, "784c3ad996dbf4c814ec8552473d66106905edf662e4ed5be5a535eff0410f33"), looks := false }, kinds := [], alts := [], laidByText := true, laidKinds := [.data, .data], laidTests := true, laidLooks := .later }
def ShaPartsCardSaid : Prop := Claim7.holds Tryd.pinned (.plain (OpenSpec.ofChange shaPartsSpec)) shaPartsCard

/-- THE TIED CARD OF 'sacristylaw03.ShaFixed'. -/
def shaFixedCard : Claim7 := { stood := { row := shaFixedRow, standIns := [], harness := (true, "784c3ad996dbf4c814ec8552473d66106905edf662e4ed5be5a535eff0410f33"), looks := false }, kinds := [], alts := [], laidByText := true, laidKinds := [.data, .data], laidTests := true, laidLooks := .later }
def ShaFixedCardSaid : Prop := Claim7.holds Tryd.pinned (.plain (OpenSpec.ofChange shaFixedSpec)) shaFixedCard

/-- THE TIED CARD OF 'sacristylaw04.MacDerives'. -/
def macDerivesCard : Claim7 := { stood := { row := macDerivesRow, standIns := [], harness := (true, "784c3ad996dbf4c814ec8552473d66106905edf662e4ed5be5a535eff0410f33"), looks := false }, kinds := [], alts := [], laidByText := true, laidKinds := [.data, .data], laidTests := true, laidLooks := .later }
def MacDerivesCardSaid : Prop := Claim7.holds Tryd.pinned (.plain (OpenSpec.ofChange macDerivesSpec)) macDerivesCard

/-- THE TIED CARD OF 'sacristylaw04.MacFronts'. -/
def macFrontsCard : Claim7 := { stood := { row := macFrontsRow, standIns := [], harness := (true, "784c3ad996dbf4c814ec8552473d66106905edf662e4ed5be5a535eff0410f33"), looks := false }, kinds := [], alts := [], laidByText := true, laidKinds := [.data, .data], laidTests := true, laidLooks := .later }
def MacFrontsCardSaid : Prop := Claim7.holds Tryd.pinned (.plain (OpenSpec.ofChange macFrontsSpec)) macFrontsCard

/-- THE SECOND FORM's CARD OF 'sacristylaw03.ShaParts'. -/
def shaPartsUptoCard : Claim7 := { stood := { row := shaPartsUptoRow, standIns := [], harness := (true, "784c3ad996dbf4c814ec8552473d66106905edf662e4ed5be5a535eff0410f33"), looks := false }, kinds := [], alts := [], laidByText := true, laidKinds := [.data, .data], laidTests := true, laidLooks := .later }
def ShaPartsUptoCardSaid : Prop := Claim7.holds Tryd.pinned (.plain (OpenSpec.upto shaPartsSpec)) shaPartsUptoCard

/-- THE SECOND FORM's CARD OF 'sacristylaw03.ShaFixed'. -/
def shaFixedUptoCard : Claim7 := { stood := { row := shaFixedUptoRow, standIns := [], harness := (true, "784c3ad996dbf4c814ec8552473d66106905edf662e4ed5be5a535eff0410f33"), looks := false }, kinds := [], alts := [], laidByText := true, laidKinds := [.data, .data], laidTests := true, laidLooks := .later }
def ShaFixedUptoCardSaid : Prop := Claim7.holds Tryd.pinned (.plain (OpenSpec.upto shaFixedSpec)) shaFixedUptoCard

/-- THE SECOND FORM's CARD OF 'sacristylaw04.MacDerives'. -/
def macDerivesUptoCard : Claim7 := { stood := { row := macDerivesUptoRow, standIns := [], harness := (true, "784c3ad996dbf4c814ec8552473d66106905edf662e4ed5be5a535eff0410f33"), looks := false }, kinds := [], alts := [], laidByText := true, laidKinds := [.data, .data], laidTests := true, laidLooks := .later }
def MacDerivesUptoCardSaid : Prop := Claim7.holds Tryd.pinned (.plain (OpenSpec.upto macDerivesSpec)) macDerivesUptoCard

/-- THE SECOND FORM's CARD OF 'sacristylaw04.MacFronts'. -/
def macFrontsUptoCard : Claim7 := { stood := { row := macFrontsUptoRow, standIns := [], harness := (true, "784c3ad996dbf4c814ec8552473d66106905edf662e4ed5be5a535eff0410f33"), looks := false }, kinds := [], alts := [], laidByText := true, laidKinds := [.data, .data], laidTests := true, laidLooks := .later }
def MacFrontsUptoCardSaid : Prop := Claim7.holds Tryd.pinned (.plain (OpenSpec.upto macFrontsSpec)) macFrontsUptoCard
end Rows
end Go.Proofs.YtnpobaaaoelalaaDoor
