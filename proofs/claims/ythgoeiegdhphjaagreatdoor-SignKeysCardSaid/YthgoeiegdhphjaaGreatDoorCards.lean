/-
  DERIVED. GIVEN WITH THE SEED: THE CARDS: each row of YthgoeiegdhphjaaGreatDoorRows.lean that lists a variable, with what it lists TIED to the program's text (the seventh form; the later family's looks); each row that meets fmt, with fmt's text TOLD by the authors' own Lean function (tested against real Go, not proved from fmt's source: count such statements apart). THE CARD IS WHAT COUNTS. Prove the row's statement (the work); the ties are given (YthgoeiegdhphjaaGreatDoorTie.lean); close each card by the builder's one call (the guide's Derived/Test/ToyasCard.lean, 'card_holds'). Laid BY PROGRAM, IN A SANDBOX (cutbox-door.mjs). By AI agents, Wed Nov 11 2026. No macro, syntax, notation, axiom, sorry.
-/
import Derived.Test.YthgoeiegdhphjaaGreatDoorRows
import GoSem.ClaimSeven
namespace Go.Proofs.YthgoeiegdhphjaaGreatDoor
namespace Rows

/-- THE TIED CARD OF 'sacristylaw10.CurveJoins'. -/
def curveJoinsCard : Claim7 := { stood := { row := curveJoinsRow, standIns := [], harness := (true, "9d6981908b5f97505e69e5ee9b278d5f036470da93707f563730dce7cffee3f6"), looks := false }, kinds := [], alts := [], laidByText := true, laidKinds := [.data, .data], laidTests := true, laidLooks := .later }
def CurveJoinsCardSaid : Prop := Claim7.holds Tryz.pinned (.plain (OpenSpec.ofChange curveJoinsSpec)) curveJoinsCard

/-- THE TIED CARD OF 'sacristylaw10.CurveThrough'. -/
def curveThroughCard : Claim7 := { stood := { row := curveThroughRow, standIns := [], harness := (true, "9d6981908b5f97505e69e5ee9b278d5f036470da93707f563730dce7cffee3f6"), looks := false }, kinds := [], alts := [], laidByText := true, laidKinds := [.data, .data], laidTests := true, laidLooks := .later }
def CurveThroughCardSaid : Prop := Claim7.holds Tryz.pinned (.plain (OpenSpec.ofChange curveThroughSpec)) curveThroughCard

/-- THE TIED CARD OF 'sacristylaw11.SignSigns'. -/
def signSignsCard : Claim7 := { stood := { row := signSignsRow, standIns := [], harness := (true, "9d6981908b5f97505e69e5ee9b278d5f036470da93707f563730dce7cffee3f6"), looks := false }, kinds := [], alts := [], laidByText := true, laidKinds := [.data, .data], laidTests := true, laidLooks := .later }
def SignSignsCardSaid : Prop := Claim7.holds Tryz.pinned (.plain (OpenSpec.ofChange signSignsSpec)) signSignsCard

/-- THE TIED CARD OF 'sacristylaw11.SignVerifies'. -/
def signVerifiesCard : Claim7 := { stood := { row := signVerifiesRow, standIns := [], harness := (true, "9d6981908b5f97505e69e5ee9b278d5f036470da93707f563730dce7cffee3f6"), looks := false }, kinds := [], alts := [], laidByText := true, laidKinds := [.data, .data], laidTests := true, laidLooks := .later }
def SignVerifiesCardSaid : Prop := Claim7.holds Tryz.pinned (.plain (OpenSpec.ofChange signVerifiesSpec)) signVerifiesCard

/-- THE TIED CARD OF 'sacristylaw11.SignBack'. -/
def signBackCard : Claim7 := { stood := { row := signBackRow, standIns := [], harness := (true, "9d6981908b5f97505e69e5ee9b278d5f036470da93707f563730dce7cffee3f6"), looks := false }, kinds := [], alts := [], laidByText := true, laidKinds := [.data, .data], laidTests := true, laidLooks := .later }
def SignBackCardSaid : Prop := Claim7.holds Tryz.pinned (.plain (OpenSpec.ofChange signBackSpec)) signBackCard

/-- THE TIED CARD OF 'sacristylaw11.SignExact'. -/
def signExactCard : Claim7 := { stood := { row := signExactRow, standIns := [], harness := (true, "9d6981908b5f97505e69e5ee9b278d5f036470da93707f563730dce7cffee3f6"), looks := false }, kinds := [], alts := [], laidByText := true, laidKinds := [.data, .data], laidTests := true, laidLooks := .later }
def SignExactCardSaid : Prop := Claim7.holds Tryz.pinned (.plain (OpenSpec.ofChange signExactSpec)) signExactCard

/-- THE TIED CARD OF 'sacristylaw11.SignKeys'. -/
def signKeysCard : Claim7 := { stood := { row := signKeysRow, standIns := [], harness := (true, "9d6981908b5f97505e69e5ee9b278d5f036470da93707f563730dce7cffee3f6"), looks := false }, kinds := [], alts := [], laidByText := true, laidKinds := [.data, .data], laidTests := true, laidLooks := .later }
def SignKeysCardSaid : Prop := Claim7.holds Tryz.pinned (.plain (OpenSpec.ofChange signKeysSpec)) signKeysCard

/-- THE TIED CARD OF 'sacristylaw12.DleqProves'. -/
def dleqProvesCard : Claim7 := { stood := { row := dleqProvesRow, standIns := [], harness := (true, "9d6981908b5f97505e69e5ee9b278d5f036470da93707f563730dce7cffee3f6"), looks := false }, kinds := [], alts := [], laidByText := true, laidKinds := [.data, .data], laidTests := true, laidLooks := .later }
def DleqProvesCardSaid : Prop := Claim7.holds Tryz.pinned (.plain (OpenSpec.ofChange dleqProvesSpec)) dleqProvesCard

/-- THE TIED CARD OF 'sacristylaw12.DleqVerifies'. -/
def dleqVerifiesCard : Claim7 := { stood := { row := dleqVerifiesRow, standIns := [], harness := (true, "9d6981908b5f97505e69e5ee9b278d5f036470da93707f563730dce7cffee3f6"), looks := false }, kinds := [], alts := [], laidByText := true, laidKinds := [.data, .data], laidTests := true, laidLooks := .later }
def DleqVerifiesCardSaid : Prop := Claim7.holds Tryz.pinned (.plain (OpenSpec.ofChange dleqVerifiesSpec)) dleqVerifiesCard

/-- THE TIED CARD OF 'sacristylaw12.DleqBack'. -/
def dleqBackCard : Claim7 := { stood := { row := dleqBackRow, standIns := [], harness := (true, "9d6981908b5f97505e69e5ee9b278d5f036470da93707f563730dce7cffee3f6"), looks := false }, kinds := [], alts := [], laidByText := true, laidKinds := [.data, .data], laidTests := true, laidLooks := .later }
def DleqBackCardSaid : Prop := Claim7.holds Tryz.pinned (.plain (OpenSpec.ofChange dleqBackSpec)) dleqBackCard

/-- THE TIED CARD OF 'sacristylaw12.DleqSound'. -/
def dleqSoundCard : Claim7 := { stood := { row := dleqSoundRow, standIns := [], harness := (true, "9d6981908b5f97505e69e5ee9b278d5f036470da93707f563730dce7cffee3f6"), looks := false }, kinds := [], alts := [], laidByText := true, laidKinds := [.data, .data], laidTests := true, laidLooks := .later }
def DleqSoundCardSaid : Prop := Claim7.holds Tryz.pinned (.plain (OpenSpec.ofChange dleqSoundSpec)) dleqSoundCard

/-- THE SECOND FORM's CARD OF 'sacristylaw10.CurveJoins'. -/
def curveJoinsUptoCard : Claim7 := { stood := { row := curveJoinsUptoRow, standIns := [], harness := (true, "9d6981908b5f97505e69e5ee9b278d5f036470da93707f563730dce7cffee3f6"), looks := false }, kinds := [], alts := [], laidByText := true, laidKinds := [.data, .data], laidTests := true, laidLooks := .later }
def CurveJoinsUptoCardSaid : Prop := Claim7.holds Tryz.pinned (.plain (OpenSpec.upto curveJoinsSpec)) curveJoinsUptoCard

/-- THE SECOND FORM's CARD OF 'sacristylaw10.CurveThrough'. -/
def curveThroughUptoCard : Claim7 := { stood := { row := curveThroughUptoRow, standIns := [], harness := (true, "9d6981908b5f97505e69e5ee9b278d5f036470da93707f563730dce7cffee3f6"), looks := false }, kinds := [], alts := [], laidByText := true, laidKinds := [.data, .data], laidTests := true, laidLooks := .later }
def CurveThroughUptoCardSaid : Prop := Claim7.holds Tryz.pinned (.plain (OpenSpec.upto curveThroughSpec)) curveThroughUptoCard

/-- THE SECOND FORM's CARD OF 'sacristylaw11.SignSigns'. -/
def signSignsUptoCard : Claim7 := { stood := { row := signSignsUptoRow, standIns := [], harness := (true, "9d6981908b5f97505e69e5ee9b278d5f036470da93707f563730dce7cffee3f6"), looks := false }, kinds := [], alts := [], laidByText := true, laidKinds := [.data, .data], laidTests := true, laidLooks := .later }
def SignSignsUptoCardSaid : Prop := Claim7.holds Tryz.pinned (.plain (OpenSpec.upto signSignsSpec)) signSignsUptoCard

/-- THE SECOND FORM's CARD OF 'sacristylaw11.SignVerifies'. -/
def signVerifiesUptoCard : Claim7 := { stood := { row := signVerifiesUptoRow, standIns := [], harness := (true, "9d6981908b5f97505e69e5ee9b278d5f036470da93707f563730dce7cffee3f6"), looks := false }, kinds := [], alts := [], laidByText := true, laidKinds := [.data, .data], laidTests := true, laidLooks := .later }
def SignVerifiesUptoCardSaid : Prop := Claim7.holds Tryz.pinned (.plain (OpenSpec.upto signVerifiesSpec)) signVerifiesUptoCard

/-- THE SECOND FORM's CARD OF 'sacristylaw11.SignBack'. -/
def signBackUptoCard : Claim7 := { stood := { row := signBackUptoRow, standIns := [], harness := (true, "9d6981908b5f97505e69e5ee9b278d5f036470da93707f563730dce7cffee3f6"), looks := false }, kinds := [], alts := [], laidByText := true, laidKinds := [.data, .data], laidTests := true, laidLooks := .later }
def SignBackUptoCardSaid : Prop := Claim7.holds Tryz.pinned (.plain (OpenSpec.upto signBackSpec)) signBackUptoCard

/-- THE SECOND FORM's CARD OF 'sacristylaw11.SignExact'. -/
def signExactUptoCard : Claim7 := { stood := { row := signExactUptoRow, standIns := [], harness := (true, "9d6981908b5f97505e69e5ee9b278d5f036470da93707f563730dce7cffee3f6"), looks := false }, kinds := [], alts := [], laidByText := true, laidKinds := [.data, .data], laidTests := true, laidLooks := .later }
def SignExactUptoCardSaid : Prop := Claim7.holds Tryz.pinned (.plain (OpenSpec.upto signExactSpec)) signExactUptoCard

/-- THE SECOND FORM's CARD OF 'sacristylaw11.SignKeys'. -/
def signKeysUptoCard : Claim7 := { stood := { row := signKeysUptoRow, standIns := [], harness := (true, "9d6981908b5f97505e69e5ee9b278d5f036470da93707f563730dce7cffee3f6"), looks := false }, kinds := [], alts := [], laidByText := true, laidKinds := [.data, .data], laidTests := true, laidLooks := .later }
def SignKeysUptoCardSaid : Prop := Claim7.holds Tryz.pinned (.plain (OpenSpec.upto signKeysSpec)) signKeysUptoCard

/-- THE SECOND FORM's CARD OF 'sacristylaw12.DleqProves'. -/
def dleqProvesUptoCard : Claim7 := { stood := { row := dleqProvesUptoRow, standIns := [], harness := (true, "9d6981908b5f97505e69e5ee9b278d5f036470da93707f563730dce7cffee3f6"), looks := false }, kinds := [], alts := [], laidByText := true, laidKinds := [.data, .data], laidTests := true, laidLooks := .later }
def DleqProvesUptoCardSaid : Prop := Claim7.holds Tryz.pinned (.plain (OpenSpec.upto dleqProvesSpec)) dleqProvesUptoCard

/-- THE SECOND FORM's CARD OF 'sacristylaw12.DleqVerifies'. -/
def dleqVerifiesUptoCard : Claim7 := { stood := { row := dleqVerifiesUptoRow, standIns := [], harness := (true, "9d6981908b5f97505e69e5ee9b278d5f036470da93707f563730dce7cffee3f6"), looks := false }, kinds := [], alts := [], laidByText := true, laidKinds := [.data, .data], laidTests := true, laidLooks := .later }
def DleqVerifiesUptoCardSaid : Prop := Claim7.holds Tryz.pinned (.plain (OpenSpec.upto dleqVerifiesSpec)) dleqVerifiesUptoCard

/-- THE SECOND FORM's CARD OF 'sacristylaw12.DleqBack'. -/
def dleqBackUptoCard : Claim7 := { stood := { row := dleqBackUptoRow, standIns := [], harness := (true, "9d6981908b5f97505e69e5ee9b278d5f036470da93707f563730dce7cffee3f6"), looks := false }, kinds := [], alts := [], laidByText := true, laidKinds := [.data, .data], laidTests := true, laidLooks := .later }
def DleqBackUptoCardSaid : Prop := Claim7.holds Tryz.pinned (.plain (OpenSpec.upto dleqBackSpec)) dleqBackUptoCard

/-- THE SECOND FORM's CARD OF 'sacristylaw12.DleqSound'. -/
def dleqSoundUptoCard : Claim7 := { stood := { row := dleqSoundUptoRow, standIns := [], harness := (true, "9d6981908b5f97505e69e5ee9b278d5f036470da93707f563730dce7cffee3f6"), looks := false }, kinds := [], alts := [], laidByText := true, laidKinds := [.data, .data], laidTests := true, laidLooks := .later }
def DleqSoundUptoCardSaid : Prop := Claim7.holds Tryz.pinned (.plain (OpenSpec.upto dleqSoundSpec)) dleqSoundUptoCard
end Rows
end Go.Proofs.YthgoeiegdhphjaaGreatDoor
