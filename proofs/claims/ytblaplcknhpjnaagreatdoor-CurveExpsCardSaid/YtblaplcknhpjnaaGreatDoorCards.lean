/-
  DERIVED. GIVEN WITH THE SEED: THE CARDS: each row of YtblaplcknhpjnaaGreatDoorRows.lean that lists a variable, with what it lists TIED to the program's text (the seventh form; the later family's looks); each row that meets fmt, with fmt's text TOLD by the authors' own Lean function (tested against real Go, not proved from fmt's source: count such statements apart). THE CARD IS WHAT COUNTS. Prove the row's statement (the work); the ties are given (YtblaplcknhpjnaaGreatDoorTie.lean); close each card by the builder's one call (the guide's Derived/Test/ToyasCard.lean, 'card_holds'). Laid BY PROGRAM, IN A SANDBOX (cutbox-door.mjs). By AI agents, Wed Nov 11 2026. No macro, syntax, notation, axiom, sorry.
-/
import Derived.Test.YtblaplcknhpjnaaGreatDoorRows
import GoSem.ClaimSeven
namespace Go.Proofs.YtblaplcknhpjnaaGreatDoor
namespace Rows

/-- THE TIED CARD OF 'sacristylaw10.CurveJoins'. -/
def curveJoinsCard : Claim7 := { stood := { row := curveJoinsRow, standIns := [], harness := (true, "bed89aae17ac1114d81051cd635bd42a8da43552c7ddcd4356a4889091969660"), looks := false }, kinds := [], alts := [], laidByText := true, laidKinds := [.data, .data], laidTests := true, laidLooks := .later }
def CurveJoinsCardSaid : Prop := Claim7.holds Tryz.pinned (.plain (OpenSpec.ofChange curveJoinsSpec)) curveJoinsCard

/-- THE TIED CARD OF 'sacristylaw10.CurveWeighs'. -/
def curveWeighsCard : Claim7 := { stood := { row := curveWeighsRow, standIns := [], harness := (true, "bed89aae17ac1114d81051cd635bd42a8da43552c7ddcd4356a4889091969660"), looks := false }, kinds := [], alts := [], laidByText := true, laidKinds := [.data, .data], laidTests := true, laidLooks := .later }
def CurveWeighsCardSaid : Prop := Claim7.holds Tryz.pinned (.plain (OpenSpec.ofChange curveWeighsSpec)) curveWeighsCard

/-- THE TIED CARD OF 'sacristylaw10.CurveThrough'. -/
def curveThroughCard : Claim7 := { stood := { row := curveThroughRow, standIns := [], harness := (true, "bed89aae17ac1114d81051cd635bd42a8da43552c7ddcd4356a4889091969660"), looks := false }, kinds := [], alts := [], laidByText := true, laidKinds := [.data, .data], laidTests := true, laidLooks := .later }
def CurveThroughCardSaid : Prop := Claim7.holds Tryz.pinned (.plain (OpenSpec.ofChange curveThroughSpec)) curveThroughCard

/-- THE TIED CARD OF 'sacristylaw10.CurveShares'. -/
def curveSharesCard : Claim7 := { stood := { row := curveSharesRow, standIns := [], harness := (true, "bed89aae17ac1114d81051cd635bd42a8da43552c7ddcd4356a4889091969660"), looks := false }, kinds := [], alts := [], laidByText := true, laidKinds := [.data, .data], laidTests := true, laidLooks := .later }
def CurveSharesCardSaid : Prop := Claim7.holds Tryz.pinned (.plain (OpenSpec.ofChange curveSharesSpec)) curveSharesCard

/-- THE TIED CARD OF 'sacristylaw10.CurveExps'. -/
def curveExpsCard : Claim7 := { stood := { row := curveExpsRow, standIns := [], harness := (true, "bed89aae17ac1114d81051cd635bd42a8da43552c7ddcd4356a4889091969660"), looks := false }, kinds := [], alts := [], laidByText := true, laidKinds := [.data, .data], laidTests := true, laidLooks := .later }
def CurveExpsCardSaid : Prop := Claim7.holds Tryz.pinned (.plain (OpenSpec.ofChange curveExpsSpec)) curveExpsCard

/-- THE TIED CARD OF 'sacristylaw10.CurveSums'. -/
def curveSumsCard : Claim7 := { stood := { row := curveSumsRow, standIns := [], harness := (true, "bed89aae17ac1114d81051cd635bd42a8da43552c7ddcd4356a4889091969660"), looks := false }, kinds := [], alts := [], laidByText := true, laidKinds := [.data, .data], laidTests := true, laidLooks := .later }
def CurveSumsCardSaid : Prop := Claim7.holds Tryz.pinned (.plain (OpenSpec.ofChange curveSumsSpec)) curveSumsCard

/-- THE SECOND FORM's CARD OF 'sacristylaw10.CurveJoins'. -/
def curveJoinsUptoCard : Claim7 := { stood := { row := curveJoinsUptoRow, standIns := [], harness := (true, "bed89aae17ac1114d81051cd635bd42a8da43552c7ddcd4356a4889091969660"), looks := false }, kinds := [], alts := [], laidByText := true, laidKinds := [.data, .data], laidTests := true, laidLooks := .later }
def CurveJoinsUptoCardSaid : Prop := Claim7.holds Tryz.pinned (.plain (OpenSpec.upto curveJoinsSpec)) curveJoinsUptoCard

/-- THE SECOND FORM's CARD OF 'sacristylaw10.CurveWeighs'. -/
def curveWeighsUptoCard : Claim7 := { stood := { row := curveWeighsUptoRow, standIns := [], harness := (true, "bed89aae17ac1114d81051cd635bd42a8da43552c7ddcd4356a4889091969660"), looks := false }, kinds := [], alts := [], laidByText := true, laidKinds := [.data, .data], laidTests := true, laidLooks := .later }
def CurveWeighsUptoCardSaid : Prop := Claim7.holds Tryz.pinned (.plain (OpenSpec.upto curveWeighsSpec)) curveWeighsUptoCard

/-- THE SECOND FORM's CARD OF 'sacristylaw10.CurveThrough'. -/
def curveThroughUptoCard : Claim7 := { stood := { row := curveThroughUptoRow, standIns := [], harness := (true, "bed89aae17ac1114d81051cd635bd42a8da43552c7ddcd4356a4889091969660"), looks := false }, kinds := [], alts := [], laidByText := true, laidKinds := [.data, .data], laidTests := true, laidLooks := .later }
def CurveThroughUptoCardSaid : Prop := Claim7.holds Tryz.pinned (.plain (OpenSpec.upto curveThroughSpec)) curveThroughUptoCard

/-- THE SECOND FORM's CARD OF 'sacristylaw10.CurveShares'. -/
def curveSharesUptoCard : Claim7 := { stood := { row := curveSharesUptoRow, standIns := [], harness := (true, "bed89aae17ac1114d81051cd635bd42a8da43552c7ddcd4356a4889091969660"), looks := false }, kinds := [], alts := [], laidByText := true, laidKinds := [.data, .data], laidTests := true, laidLooks := .later }
def CurveSharesUptoCardSaid : Prop := Claim7.holds Tryz.pinned (.plain (OpenSpec.upto curveSharesSpec)) curveSharesUptoCard

/-- THE SECOND FORM's CARD OF 'sacristylaw10.CurveExps'. -/
def curveExpsUptoCard : Claim7 := { stood := { row := curveExpsUptoRow, standIns := [], harness := (true, "bed89aae17ac1114d81051cd635bd42a8da43552c7ddcd4356a4889091969660"), looks := false }, kinds := [], alts := [], laidByText := true, laidKinds := [.data, .data], laidTests := true, laidLooks := .later }
def CurveExpsUptoCardSaid : Prop := Claim7.holds Tryz.pinned (.plain (OpenSpec.upto curveExpsSpec)) curveExpsUptoCard

/-- THE SECOND FORM's CARD OF 'sacristylaw10.CurveSums'. -/
def curveSumsUptoCard : Claim7 := { stood := { row := curveSumsUptoRow, standIns := [], harness := (true, "bed89aae17ac1114d81051cd635bd42a8da43552c7ddcd4356a4889091969660"), looks := false }, kinds := [], alts := [], laidByText := true, laidKinds := [.data, .data], laidTests := true, laidLooks := .later }
def CurveSumsUptoCardSaid : Prop := Claim7.holds Tryz.pinned (.plain (OpenSpec.upto curveSumsSpec)) curveSumsUptoCard
end Rows
end Go.Proofs.YtblaplcknhpjnaaGreatDoor
