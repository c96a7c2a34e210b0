/-
  DERIVED. GIVEN WITH THE SEED: THE CARDS: each row of YtdebccghjbfgdaaGreatDoorRows.lean that lists a variable, with what it lists TIED to the program's text (the seventh form; the later family's looks); each row that meets fmt, with fmt's text TOLD by the authors' own Lean function (tested against real Go, not proved from fmt's source: count such statements apart). THE CARD IS WHAT COUNTS. Prove the row's statement (the work); the ties are given (YtdebccghjbfgdaaGreatDoorTie.lean); close each card by the builder's one call (the guide's Derived/Test/ToyasCard.lean, 'card_holds'). Laid BY PROGRAM, IN A SANDBOX (cutbox-door.mjs). By AI agents, Wed Nov 11 2026. No macro, syntax, notation, axiom, sorry.
-/
import Derived.Test.YtdebccghjbfgdaaGreatDoorRows
import GoSem.ClaimSeven
namespace Go.Proofs.YtdebccghjbfgdaaGreatDoor
namespace Rows

/-- THE TIED CARD OF 'sacristylaw10.CurveJoins'. -/
def curveJoinsCard : Claim7 := { stood := { row := curveJoinsRow, standIns := [], harness := (true, "e86134e0242aeb90150ad5407c92d79aaea4a9c7c3af4564f36c2bcb2e02d90f"), looks := false }, kinds := [], alts := [], laidByText := true, laidKinds := [.data, .data], laidTests := true, laidLooks := .later }
def CurveJoinsCardSaid : Prop := Claim7.holds Tryz.pinned (.plain (OpenSpec.ofChange curveJoinsSpec)) curveJoinsCard

/-- THE TIED CARD OF 'sacristylaw10.CurveWeighs'. -/
def curveWeighsCard : Claim7 := { stood := { row := curveWeighsRow, standIns := [], harness := (true, "e86134e0242aeb90150ad5407c92d79aaea4a9c7c3af4564f36c2bcb2e02d90f"), looks := false }, kinds := [], alts := [], laidByText := true, laidKinds := [.data, .data], laidTests := true, laidLooks := .later }
def CurveWeighsCardSaid : Prop := Claim7.holds Tryz.pinned (.plain (OpenSpec.ofChange curveWeighsSpec)) curveWeighsCard

/-- THE TIED CARD OF 'sacristylaw10.CurveThrough'. -/
def curveThroughCard : Claim7 := { stood := { row := curveThroughRow, standIns := [], harness := (true, "e86134e0242aeb90150ad5407c92d79aaea4a9c7c3af4564f36c2bcb2e02d90f"), looks := false }, kinds := [], alts := [], laidByText := true, laidKinds := [.data, .data], laidTests := true, laidLooks := .later }
def CurveThroughCardSaid : Prop := Claim7.holds Tryz.pinned (.plain (OpenSpec.ofChange curveThroughSpec)) curveThroughCard

/-- THE TIED CARD OF 'sacristylaw10.CurveShares'. -/
def curveSharesCard : Claim7 := { stood := { row := curveSharesRow, standIns := [], harness := (true, "e86134e0242aeb90150ad5407c92d79aaea4a9c7c3af4564f36c2bcb2e02d90f"), looks := false }, kinds := [], alts := [], laidByText := true, laidKinds := [.data, .data], laidTests := true, laidLooks := .later }
def CurveSharesCardSaid : Prop := Claim7.holds Tryz.pinned (.plain (OpenSpec.ofChange curveSharesSpec)) curveSharesCard

/-- THE TIED CARD OF 'sacristylaw10.CurveExps'. -/
def curveExpsCard : Claim7 := { stood := { row := curveExpsRow, standIns := [], harness := (true, "e86134e0242aeb90150ad5407c92d79aaea4a9c7c3af4564f36c2bcb2e02d90f"), looks := false }, kinds := [], alts := [], laidByText := true, laidKinds := [.data, .data], laidTests := true, laidLooks := .later }
def CurveExpsCardSaid : Prop := Claim7.holds Tryz.pinned (.plain (OpenSpec.ofChange curveExpsSpec)) curveExpsCard

/-- THE TIED CARD OF 'sacristylaw10.CurveSums'. -/
def curveSumsCard : Claim7 := { stood := { row := curveSumsRow, standIns := [], harness := (true, "e86134e0242aeb90150ad5407c92d79aaea4a9c7c3af4564f36c2bcb2e02d90f"), looks := false }, kinds := [], alts := [], laidByText := true, laidKinds := [.data, .data], laidTests := true, laidLooks := .later }
def CurveSumsCardSaid : Prop := Claim7.holds Tryz.pinned (.plain (OpenSpec.ofChange curveSumsSpec)) curveSumsCard

/-- THE TIED CARD OF 'sacristylaw11.SignSigns'. -/
def signSignsCard : Claim7 := { stood := { row := signSignsRow, standIns := [], harness := (true, "e86134e0242aeb90150ad5407c92d79aaea4a9c7c3af4564f36c2bcb2e02d90f"), looks := false }, kinds := [], alts := [], laidByText := true, laidKinds := [.data, .data], laidTests := true, laidLooks := .later }
def SignSignsCardSaid : Prop := Claim7.holds Tryz.pinned (.plain (OpenSpec.ofChange signSignsSpec)) signSignsCard

/-- THE TIED CARD OF 'sacristylaw11.SignVerifies'. -/
def signVerifiesCard : Claim7 := { stood := { row := signVerifiesRow, standIns := [], harness := (true, "e86134e0242aeb90150ad5407c92d79aaea4a9c7c3af4564f36c2bcb2e02d90f"), looks := false }, kinds := [], alts := [], laidByText := true, laidKinds := [.data, .data], laidTests := true, laidLooks := .later }
def SignVerifiesCardSaid : Prop := Claim7.holds Tryz.pinned (.plain (OpenSpec.ofChange signVerifiesSpec)) signVerifiesCard

/-- THE TIED CARD OF 'sacristylaw11.SignBack'. -/
def signBackCard : Claim7 := { stood := { row := signBackRow, standIns := [], harness := (true, "e86134e0242aeb90150ad5407c92d79aaea4a9c7c3af4564f36c2bcb2e02d90f"), looks := false }, kinds := [], alts := [], laidByText := true, laidKinds := [.data, .data], laidTests := true, laidLooks := .later }
def SignBackCardSaid : Prop := Claim7.holds Tryz.pinned (.plain (OpenSpec.ofChange signBackSpec)) signBackCard

/-- THE TIED CARD OF 'sacristylaw11.SignExact'. -/
def signExactCard : Claim7 := { stood := { row := signExactRow, standIns := [], harness := (true, "e86134e0242aeb90150ad5407c92d79aaea4a9c7c3af4564f36c2bcb2e02d90f"), looks := false }, kinds := [], alts := [], laidByText := true, laidKinds := [.data, .data], laidTests := true, laidLooks := .later }
def SignExactCardSaid : Prop := Claim7.holds Tryz.pinned (.plain (OpenSpec.ofChange signExactSpec)) signExactCard

/-- THE TIED CARD OF 'sacristylaw11.SignKeys'. -/
def signKeysCard : Claim7 := { stood := { row := signKeysRow, standIns := [], harness := (true, "e86134e0242aeb90150ad5407c92d79aaea4a9c7c3af4564f36c2bcb2e02d90f"), looks := false }, kinds := [], alts := [], laidByText := true, laidKinds := [.data, .data], laidTests := true, laidLooks := .later }
def SignKeysCardSaid : Prop := Claim7.holds Tryz.pinned (.plain (OpenSpec.ofChange signKeysSpec)) signKeysCard

/-- THE SECOND FORM's CARD OF 'sacristylaw10.CurveJoins'. -/
def curveJoinsUptoCard : Claim7 := { stood := { row := curveJoinsUptoRow, standIns := [], harness := (true, "e86134e0242aeb90150ad5407c92d79aaea4a9c7c3af4564f36c2bcb2e02d90f"), looks := false }, kinds := [], alts := [], laidByText := true, laidKinds := [.data, .data], laidTests := true, laidLooks := .later }
def CurveJoinsUptoCardSaid : Prop := Claim7.holds Tryz.pinned (.plain (OpenSpec.upto curveJoinsSpec)) curveJoinsUptoCard

/-- THE SECOND FORM's CARD OF 'sacristylaw10.CurveWeighs'. -/
def curveWeighsUptoCard : Claim7 := { stood := { row := curveWeighsUptoRow, standIns := [], harness := (true, "e86134e0242aeb90150ad5407c92d79aaea4a9c7c3af4564f36c2bcb2e02d90f"), looks := false }, kinds := [], alts := [], laidByText := true, laidKinds := [.data, .data], laidTests := true, laidLooks := .later }
def CurveWeighsUptoCardSaid : Prop := Claim7.holds Tryz.pinned (.plain (OpenSpec.upto curveWeighsSpec)) curveWeighsUptoCard

/-- THE SECOND FORM's CARD OF 'sacristylaw10.CurveThrough'. -/
def curveThroughUptoCard : Claim7 := { stood := { row := curveThroughUptoRow, standIns := [], harness := (true, "e86134e0242aeb90150ad5407c92d79aaea4a9c7c3af4564f36c2bcb2e02d90f"), looks := false }, kinds := [], alts := [], laidByText := true, laidKinds := [.data, .data], laidTests := true, laidLooks := .later }
def CurveThroughUptoCardSaid : Prop := Claim7.holds Tryz.pinned (.plain (OpenSpec.upto curveThroughSpec)) curveThroughUptoCard

/-- THE SECOND FORM's CARD OF 'sacristylaw10.CurveShares'. -/
def curveSharesUptoCard : Claim7 := { stood := { row := curveSharesUptoRow, standIns := [], harness := (true, "e86134e0242aeb90150ad5407c92d79aaea4a9c7c3af4564f36c2bcb2e02d90f"), looks := false }, kinds := [], alts := [], laidByText := true, laidKinds := [.data, .data], laidTests := true, laidLooks := .later }
def CurveSharesUptoCardSaid : Prop := Claim7.holds Tryz.pinned (.plain (OpenSpec.upto curveSharesSpec)) curveSharesUptoCard

/-- THE SECOND FORM's CARD OF 'sacristylaw10.CurveExps'. -/
def curveExpsUptoCard : Claim7 := { stood := { row := curveExpsUptoRow, standIns := [], harness := (true, "e86134e0242aeb90150ad5407c92d79aaea4a9c7c3af4564f36c2bcb2e02d90f"), looks := false }, kinds := [], alts := [], laidByText := true, laidKinds := [.data, .data], laidTests := true, laidLooks := .later }
def CurveExpsUptoCardSaid : Prop := Claim7.holds Tryz.pinned (.plain (OpenSpec.upto curveExpsSpec)) curveExpsUptoCard

/-- THE SECOND FORM's CARD OF 'sacristylaw10.CurveSums'. -/
def curveSumsUptoCard : Claim7 := { stood := { row := curveSumsUptoRow, standIns := [], harness := (true, "e86134e0242aeb90150ad5407c92d79aaea4a9c7c3af4564f36c2bcb2e02d90f"), looks := false }, kinds := [], alts := [], laidByText := true, laidKinds := [.data, .data], laidTests := true, laidLooks := .later }
def CurveSumsUptoCardSaid : Prop := Claim7.holds Tryz.pinned (.plain (OpenSpec.upto curveSumsSpec)) curveSumsUptoCard

/-- THE SECOND FORM's CARD OF 'sacristylaw11.SignSigns'. -/
def signSignsUptoCard : Claim7 := { stood := { row := signSignsUptoRow, standIns := [], harness := (true, "e86134e0242aeb90150ad5407c92d79aaea4a9c7c3af4564f36c2bcb2e02d90f"), looks := false }, kinds := [], alts := [], laidByText := true, laidKinds := [.data, .data], laidTests := true, laidLooks := .later }
def SignSignsUptoCardSaid : Prop := Claim7.holds Tryz.pinned (.plain (OpenSpec.upto signSignsSpec)) signSignsUptoCard

/-- THE SECOND FORM's CARD OF 'sacristylaw11.SignVerifies'. -/
def signVerifiesUptoCard : Claim7 := { stood := { row := signVerifiesUptoRow, standIns := [], harness := (true, "e86134e0242aeb90150ad5407c92d79aaea4a9c7c3af4564f36c2bcb2e02d90f"), looks := false }, kinds := [], alts := [], laidByText := true, laidKinds := [.data, .data], laidTests := true, laidLooks := .later }
def SignVerifiesUptoCardSaid : Prop := Claim7.holds Tryz.pinned (.plain (OpenSpec.upto signVerifiesSpec)) signVerifiesUptoCard

/-- THE SECOND FORM's CARD OF 'sacristylaw11.SignBack'. -/
def signBackUptoCard : Claim7 := { stood := { row := signBackUptoRow, standIns := [], harness := (true, "e86134e0242aeb90150ad5407c92d79aaea4a9c7c3af4564f36c2bcb2e02d90f"), looks := false }, kinds := [], alts := [], laidByText := true, laidKinds := [.data, .data], laidTests := true, laidLooks := .later }
def SignBackUptoCardSaid : Prop := Claim7.holds Tryz.pinned (.plain (OpenSpec.upto signBackSpec)) signBackUptoCard

/-- THE SECOND FORM's CARD OF 'sacristylaw11.SignExact'. -/
def signExactUptoCard : Claim7 := { stood := { row := signExactUptoRow, standIns := [], harness := (true, "e86134e0242aeb90150ad5407c92d79aaea4a9c7c3af4564f36c2bcb2e02d90f"), looks := false }, kinds := [], alts := [], laidByText := true, laidKinds := [.data, .data], laidTests := true, laidLooks := .later }
def SignExactUptoCardSaid : Prop := Claim7.holds Tryz.pinned (.plain (OpenSpec.upto signExactSpec)) signExactUptoCard

/-- THE SECOND FORM's CARD OF 'sacristylaw11.SignKeys'. -/
def signKeysUptoCard : Claim7 := { stood := { row := signKeysUptoRow, standIns := [], harness := (true, "e86134e0242aeb90150ad5407c92d79aaea4a9c7c3af4564f36c2bcb2e02d90f"), looks := false }, kinds := [], alts := [], laidByText := true, laidKinds := [.data, .data], laidTests := true, laidLooks := .later }
def SignKeysUptoCardSaid : Prop := Claim7.holds Tryz.pinned (.plain (OpenSpec.upto signKeysSpec)) signKeysUptoCard
end Rows
end Go.Proofs.YtdebccghjbfgdaaGreatDoor
