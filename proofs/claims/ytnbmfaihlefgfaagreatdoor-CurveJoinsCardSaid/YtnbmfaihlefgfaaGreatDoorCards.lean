/-
  DERIVED. GIVEN WITH THE SEED: THE CARDS: each row of YtnbmfaihlefgfaaGreatDoorRows.lean that lists a variable, with what it lists TIED to the program's text (the seventh form; the later family's looks); each row that meets fmt, with fmt's text TOLD by the authors' own Lean function (tested against real Go, not proved from fmt's source: count such statements apart). THE CARD IS WHAT COUNTS. Prove the row's statement (the work); the ties are given (YtnbmfaihlefgfaaGreatDoorTie.lean); close each card by the builder's one call (the guide's Derived/Test/ToyasCard.lean, 'card_holds'). Laid BY PROGRAM, IN A SANDBOX (cutbox-door.mjs). By AI agents, Wed Nov 11 2026. No macro, syntax, notation, axiom, sorry.
-/
import Derived.Test.YtnbmfaihlefgfaaGreatDoorRows
import GoSem.ClaimSeven
namespace Go.Proofs.YtnbmfaihlefgfaaGreatDoor
namespace Rows

/-- THE TIED CARD OF 'sacristylaw10.CurveJoins'. -/
def curveJoinsCard : Claim7 := { stood := { row := curveJoinsRow, standIns := [], harness := (true, "ff4744d23e8f68aa665fb95ea3150d9a039dbfb4fd9c25eae1909b12d3db8106"), looks := false }, kinds := [], alts := [], laidByText := true, laidKinds := [.data, .data], laidTests := true, laidLooks := .later }
def CurveJoinsCardSaid : Prop := Claim7.holds Tryz.pinned (.plain (OpenSpec.ofChange curveJoinsSpec)) curveJoinsCard

/-- THE TIED CARD OF 'sacristylaw10.CurveThrough'. -/
def curveThroughCard : Claim7 := { stood := { row := curveThroughRow, standIns := [], harness := (true, "ff4744d23e8f68aa665fb95ea3150d9a039dbfb4fd9c25eae1909b12d3db8106"), looks := false }, kinds := [], alts := [], laidByText := true, laidKinds := [.data, .data], laidTests := true, laidLooks := .later }
def CurveThroughCardSaid : Prop := Claim7.holds Tryz.pinned (.plain (OpenSpec.ofChange curveThroughSpec)) curveThroughCard

/-- THE TIED CARD OF 'sacristylaw11.SignSigns'. -/
def signSignsCard : Claim7 := { stood := { row := signSignsRow, standIns := [], harness := (true, "ff4744d23e8f68aa665fb95ea3150d9a039dbfb4fd9c25eae1909b12d3db8106"), looks := false }, kinds := [], alts := [], laidByText := true, laidKinds := [.data, .data], laidTests := true, laidLooks := .later }
def SignSignsCardSaid : Prop := Claim7.holds Tryz.pinned (.plain (OpenSpec.ofChange signSignsSpec)) signSignsCard

/-- THE TIED CARD OF 'sacristylaw11.SignVerifies'. -/
def signVerifiesCard : Claim7 := { stood := { row := signVerifiesRow, standIns := [], harness := (true, "ff4744d23e8f68aa665fb95ea3150d9a039dbfb4fd9c25eae1909b12d3db8106"), looks := false }, kinds := [], alts := [], laidByText := true, laidKinds := [.data, .data], laidTests := true, laidLooks := .later }
def SignVerifiesCardSaid : Prop := Claim7.holds Tryz.pinned (.plain (OpenSpec.ofChange signVerifiesSpec)) signVerifiesCard

/-- THE TIED CARD OF 'sacristylaw11.SignBack'. -/
def signBackCard : Claim7 := { stood := { row := signBackRow, standIns := [], harness := (true, "ff4744d23e8f68aa665fb95ea3150d9a039dbfb4fd9c25eae1909b12d3db8106"), looks := false }, kinds := [], alts := [], laidByText := true, laidKinds := [.data, .data], laidTests := true, laidLooks := .later }
def SignBackCardSaid : Prop := Claim7.holds Tryz.pinned (.plain (OpenSpec.ofChange signBackSpec)) signBackCard

/-- THE TIED CARD OF 'sacristylaw11.SignExact'. -/
def signExactCard : Claim7 := { stood := { row := signExactRow, standIns := [], harness := (true, "ff4744d23e8f68aa665fb95ea3150d9a039dbfb4fd9c25eae1909b12d3db8106"), looks := false }, kinds := [], alts := [], laidByText := true, laidKinds := [.data, .data], laidTests := true, laidLooks := .later }
def SignExactCardSaid : Prop := Claim7.holds Tryz.pinned (.plain (OpenSpec.ofChange signExactSpec)) signExactCard

/-- THE TIED CARD OF 'sacristylaw12.DleqSound'. -/
def dleqSoundCard : Claim7 := { stood := { row := dleqSoundRow, standIns := [], harness := (true, "ff4744d23e8f68aa665fb95ea3150d9a039dbfb4fd9c25eae1909b12d3db8106"), looks := false }, kinds := [], alts := [], laidByText := true, laidKinds := [.data, .data], laidTests := true, laidLooks := .later }
def DleqSoundCardSaid : Prop := Claim7.holds Tryz.pinned (.plain (OpenSpec.ofChange dleqSoundSpec)) dleqSoundCard

/-- THE TIED CARD OF 'sacristylaw13.PledgeMakes'. -/
def pledgeMakesCard : Claim7 := { stood := { row := pledgeMakesRow, standIns := [], harness := (true, "ff4744d23e8f68aa665fb95ea3150d9a039dbfb4fd9c25eae1909b12d3db8106"), looks := false }, kinds := [], alts := [], laidByText := true, laidKinds := [.data, .data], laidTests := true, laidLooks := .later }
def PledgeMakesCardSaid : Prop := Claim7.holds Tryz.pinned (.plain (OpenSpec.ofChange pledgeMakesSpec)) pledgeMakesCard

/-- THE TIED CARD OF 'sacristylaw13.PledgeTells'. -/
def pledgeTellsCard : Claim7 := { stood := { row := pledgeTellsRow, standIns := [], harness := (true, "ff4744d23e8f68aa665fb95ea3150d9a039dbfb4fd9c25eae1909b12d3db8106"), looks := false }, kinds := [], alts := [], laidByText := true, laidKinds := [.data, .data], laidTests := true, laidLooks := .later }
def PledgeTellsCardSaid : Prop := Claim7.holds Tryz.pinned (.plain (OpenSpec.ofChange pledgeTellsSpec)) pledgeTellsCard

/-- THE TIED CARD OF 'sacristylaw13.PledgeOpens'. -/
def pledgeOpensCard : Claim7 := { stood := { row := pledgeOpensRow, standIns := [], harness := (true, "ff4744d23e8f68aa665fb95ea3150d9a039dbfb4fd9c25eae1909b12d3db8106"), looks := false }, kinds := [], alts := [], laidByText := true, laidKinds := [.data, .data], laidTests := true, laidLooks := .later }
def PledgeOpensCardSaid : Prop := Claim7.holds Tryz.pinned (.plain (OpenSpec.ofChange pledgeOpensSpec)) pledgeOpensCard

/-- THE TIED CARD OF 'sacristylaw13.PledgeSums'. -/
def pledgeSumsCard : Claim7 := { stood := { row := pledgeSumsRow, standIns := [], harness := (true, "ff4744d23e8f68aa665fb95ea3150d9a039dbfb4fd9c25eae1909b12d3db8106"), looks := false }, kinds := [], alts := [], laidByText := true, laidKinds := [.data, .data], laidTests := true, laidLooks := .later }
def PledgeSumsCardSaid : Prop := Claim7.holds Tryz.pinned (.plain (OpenSpec.ofChange pledgeSumsSpec)) pledgeSumsCard

/-- THE TIED CARD OF 'sacristylaw13.PledgeHides'. -/
def pledgeHidesCard : Claim7 := { stood := { row := pledgeHidesRow, standIns := [], harness := (true, "ff4744d23e8f68aa665fb95ea3150d9a039dbfb4fd9c25eae1909b12d3db8106"), looks := false }, kinds := [], alts := [], laidByText := true, laidKinds := [.data, .data], laidTests := true, laidLooks := .later }
def PledgeHidesCardSaid : Prop := Claim7.holds Tryz.pinned (.plain (OpenSpec.ofChange pledgeHidesSpec)) pledgeHidesCard

/-- THE SECOND FORM's CARD OF 'sacristylaw10.CurveJoins'. -/
def curveJoinsUptoCard : Claim7 := { stood := { row := curveJoinsUptoRow, standIns := [], harness := (true, "ff4744d23e8f68aa665fb95ea3150d9a039dbfb4fd9c25eae1909b12d3db8106"), looks := false }, kinds := [], alts := [], laidByText := true, laidKinds := [.data, .data], laidTests := true, laidLooks := .later }
def CurveJoinsUptoCardSaid : Prop := Claim7.holds Tryz.pinned (.plain (OpenSpec.upto curveJoinsSpec)) curveJoinsUptoCard

/-- THE SECOND FORM's CARD OF 'sacristylaw10.CurveThrough'. -/
def curveThroughUptoCard : Claim7 := { stood := { row := curveThroughUptoRow, standIns := [], harness := (true, "ff4744d23e8f68aa665fb95ea3150d9a039dbfb4fd9c25eae1909b12d3db8106"), looks := false }, kinds := [], alts := [], laidByText := true, laidKinds := [.data, .data], laidTests := true, laidLooks := .later }
def CurveThroughUptoCardSaid : Prop := Claim7.holds Tryz.pinned (.plain (OpenSpec.upto curveThroughSpec)) curveThroughUptoCard

/-- THE SECOND FORM's CARD OF 'sacristylaw11.SignSigns'. -/
def signSignsUptoCard : Claim7 := { stood := { row := signSignsUptoRow, standIns := [], harness := (true, "ff4744d23e8f68aa665fb95ea3150d9a039dbfb4fd9c25eae1909b12d3db8106"), looks := false }, kinds := [], alts := [], laidByText := true, laidKinds := [.data, .data], laidTests := true, laidLooks := .later }
def SignSignsUptoCardSaid : Prop := Claim7.holds Tryz.pinned (.plain (OpenSpec.upto signSignsSpec)) signSignsUptoCard

/-- THE SECOND FORM's CARD OF 'sacristylaw11.SignVerifies'. -/
def signVerifiesUptoCard : Claim7 := { stood := { row := signVerifiesUptoRow, standIns := [], harness := (true, "ff4744d23e8f68aa665fb95ea3150d9a039dbfb4fd9c25eae1909b12d3db8106"), looks := false }, kinds := [], alts := [], laidByText := true, laidKinds := [.data, .data], laidTests := true, laidLooks := .later }
def SignVerifiesUptoCardSaid : Prop := Claim7.holds Tryz.pinned (.plain (OpenSpec.upto signVerifiesSpec)) signVerifiesUptoCard

/-- THE SECOND FORM's CARD OF 'sacristylaw11.SignBack'. -/
def signBackUptoCard : Claim7 := { stood := { row := signBackUptoRow, standIns := [], harness := (true, "ff4744d23e8f68aa665fb95ea3150d9a039dbfb4fd9c25eae1909b12d3db8106"), looks := false }, kinds := [], alts := [], laidByText := true, laidKinds := [.data, .data], laidTests := true, laidLooks := .later }
def SignBackUptoCardSaid : Prop := Claim7.holds Tryz.pinned (.plain (OpenSpec.upto signBackSpec)) signBackUptoCard

/-- THE SECOND FORM's CARD OF 'sacristylaw11.SignExact'. -/
def signExactUptoCard : Claim7 := { stood := { row := signExactUptoRow, standIns := [], harness := (true, "ff4744d23e8f68aa665fb95ea3150d9a039dbfb4fd9c25eae1909b12d3db8106"), looks := false }, kinds := [], alts := [], laidByText := true, laidKinds := [.data, .data], laidTests := true, laidLooks := .later }
def SignExactUptoCardSaid : Prop := Claim7.holds Tryz.pinned (.plain (OpenSpec.upto signExactSpec)) signExactUptoCard

/-- THE SECOND FORM's CARD OF 'sacristylaw12.DleqSound'. -/
def dleqSoundUptoCard : Claim7 := { stood := { row := dleqSoundUptoRow, standIns := [], harness := (true, "ff4744d23e8f68aa665fb95ea3150d9a039dbfb4fd9c25eae1909b12d3db8106"), looks := false }, kinds := [], alts := [], laidByText := true, laidKinds := [.data, .data], laidTests := true, laidLooks := .later }
def DleqSoundUptoCardSaid : Prop := Claim7.holds Tryz.pinned (.plain (OpenSpec.upto dleqSoundSpec)) dleqSoundUptoCard

/-- THE SECOND FORM's CARD OF 'sacristylaw13.PledgeMakes'. -/
def pledgeMakesUptoCard : Claim7 := { stood := { row := pledgeMakesUptoRow, standIns := [], harness := (true, "ff4744d23e8f68aa665fb95ea3150d9a039dbfb4fd9c25eae1909b12d3db8106"), looks := false }, kinds := [], alts := [], laidByText := true, laidKinds := [.data, .data], laidTests := true, laidLooks := .later }
def PledgeMakesUptoCardSaid : Prop := Claim7.holds Tryz.pinned (.plain (OpenSpec.upto pledgeMakesSpec)) pledgeMakesUptoCard

/-- THE SECOND FORM's CARD OF 'sacristylaw13.PledgeTells'. -/
def pledgeTellsUptoCard : Claim7 := { stood := { row := pledgeTellsUptoRow, standIns := [], harness := (true, "ff4744d23e8f68aa665fb95ea3150d9a039dbfb4fd9c25eae1909b12d3db8106"), looks := false }, kinds := [], alts := [], laidByText := true, laidKinds := [.data, .data], laidTests := true, laidLooks := .later }
def PledgeTellsUptoCardSaid : Prop := Claim7.holds Tryz.pinned (.plain (OpenSpec.upto pledgeTellsSpec)) pledgeTellsUptoCard

/-- THE SECOND FORM's CARD OF 'sacristylaw13.PledgeOpens'. -/
def pledgeOpensUptoCard : Claim7 := { stood := { row := pledgeOpensUptoRow, standIns := [], harness := (true, "ff4744d23e8f68aa665fb95ea3150d9a039dbfb4fd9c25eae1909b12d3db8106"), looks := false }, kinds := [], alts := [], laidByText := true, laidKinds := [.data, .data], laidTests := true, laidLooks := .later }
def PledgeOpensUptoCardSaid : Prop := Claim7.holds Tryz.pinned (.plain (OpenSpec.upto pledgeOpensSpec)) pledgeOpensUptoCard

/-- THE SECOND FORM's CARD OF 'sacristylaw13.PledgeSums'. -/
def pledgeSumsUptoCard : Claim7 := { stood := { row := pledgeSumsUptoRow, standIns := [], harness := (true, "ff4744d23e8f68aa665fb95ea3150d9a039dbfb4fd9c25eae1909b12d3db8106"), looks := false }, kinds := [], alts := [], laidByText := true, laidKinds := [.data, .data], laidTests := true, laidLooks := .later }
def PledgeSumsUptoCardSaid : Prop := Claim7.holds Tryz.pinned (.plain (OpenSpec.upto pledgeSumsSpec)) pledgeSumsUptoCard

/-- THE SECOND FORM's CARD OF 'sacristylaw13.PledgeHides'. -/
def pledgeHidesUptoCard : Claim7 := { stood := { row := pledgeHidesUptoRow, standIns := [], harness := (true, "ff4744d23e8f68aa665fb95ea3150d9a039dbfb4fd9c25eae1909b12d3db8106"), looks := false }, kinds := [], alts := [], laidByText := true, laidKinds := [.data, .data], laidTests := true, laidLooks := .later }
def PledgeHidesUptoCardSaid : Prop := Claim7.holds Tryz.pinned (.plain (OpenSpec.upto pledgeHidesSpec)) pledgeHidesUptoCard
end Rows
end Go.Proofs.YtnbmfaihlefgfaaGreatDoor
