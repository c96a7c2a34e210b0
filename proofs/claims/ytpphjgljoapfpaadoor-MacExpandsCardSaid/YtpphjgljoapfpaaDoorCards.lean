/-
  DERIVED. GIVEN WITH THE SEED: THE CARDS: each row of YtpphjgljoapfpaaDoorRows.lean that lists a variable, with what it lists TIED to the program's text (the seventh form; the later family's looks); each row that meets fmt, with fmt's text TOLD by the authors' own Lean function (tested against real Go, not proved from fmt's source: count such statements apart). THE CARD IS WHAT COUNTS. Prove the row's statement (the work); the ties are given (YtpphjgljoapfpaaDoorTie.lean); close each card by the builder's one call (the guide's Derived/Test/ToyasCard.lean, 'card_holds'). Laid BY PROGRAM, IN A SANDBOX (cutbox-door.mjs). By AI agents, Wed Nov 11 2026. No macro, syntax, notation, axiom, sorry.
-/
import Derived.Test.YtpphjgljoapfpaaDoorRows
import GoSem.ClaimSeven
namespace Go.Proofs.YtpphjgljoapfpaaDoor
namespace Rows

/-- THE TIED CARD OF 'sacristylaw03.ShaSums'. -/
def shaSumsCard : Claim7 := { stood := { row := shaSumsRow, standIns := [], harness := (true, "867d20106800924a2e9da89b00f3721a369aab7b92974831b74b0c637bdf23e0"), looks := false }, kinds := [], alts := [], laidByText := true, laidKinds := [.data, .data], laidTests := true, laidLooks := .later }
def ShaSumsCardSaid : Prop := Claim7.holds Tryd.pinned (.plain (OpenSpec.ofChange shaSumsSpec)) shaSumsCard

/-- THE TIED CARD OF 'sacristylaw03.ShaParts'. -/
def shaPartsCard : Claim7 := { stood := { row := shaPartsRow, standIns := [], harness := (true, "867d20106800924a2e9da89b00f3721a369aab7b92974831b74b0c637bdf23e0"), looks := false }, kinds := [], alts := [], laidByText := true, laidKinds := [.data, .data], laidTests := true, laidLooks := .later }
def ShaPartsCardSaid : Prop := Claim7.holds Tryd.pinned (.plain (OpenSpec.ofChange shaPartsSpec)) shaPartsCard

/-- THE TIED CARD OF 'sacristylaw03.ShaFixed'. -/
def shaFixedCard : Claim7 := { stood := { row := shaFixedRow, standIns := [], harness := (true, "867d20106800924a2e9da89b00f3721a369aab7b92974831b74b0c637bdf23e0"), looks := false }, kinds := [], alts := [], laidByText := true, laidKinds := [.data, .data], laidTests := true, laidLooks := .later }
def ShaFixedCardSaid : Prop := Claim7.holds Tryd.pinned (.plain (OpenSpec.ofChange shaFixedSpec)) shaFixedCard

/-- THE TIED CARD OF 'sacristylaw04.MacTags'. -/
def macTagsCard : Claim7 := { stood := { row := macTagsRow, standIns := [], harness := (true, "867d20106800924a2e9da89b00f3721a369aab7b92974831b74b0c637bdf23e0"), looks := false }, kinds := [], alts := [], laidByText := true, laidKinds := [.data, .data], laidTests := true, laidLooks := .later }
def MacTagsCardSaid : Prop := Claim7.holds Tryd.pinned (.plain (OpenSpec.ofChange macTagsSpec)) macTagsCard

/-- THE TIED CARD OF 'sacristylaw04.MacExpands'. -/
def macExpandsCard : Claim7 := { stood := { row := macExpandsRow, standIns := [], harness := (true, "867d20106800924a2e9da89b00f3721a369aab7b92974831b74b0c637bdf23e0"), looks := false }, kinds := [], alts := [], laidByText := true, laidKinds := [.data, .data], laidTests := true, laidLooks := .later }
def MacExpandsCardSaid : Prop := Claim7.holds Tryd.pinned (.plain (OpenSpec.ofChange macExpandsSpec)) macExpandsCard

/-- THE TIED CARD OF 'sacristylaw04.MacDerives'. -/
def macDerivesCard : Claim7 := { stood := { row := macDerivesRow, standIns := [], harness := (true, "867d20106800924a2e9da89b00f3721a369aab7b92974831b74b0c637bdf23e0"), looks := false }, kinds := [], alts := [], laidByText := true, laidKinds := [.data, .data], laidTests := true, laidLooks := .later }
def MacDerivesCardSaid : Prop := Claim7.holds Tryd.pinned (.plain (OpenSpec.ofChange macDerivesSpec)) macDerivesCard

/-- THE TIED CARD OF 'sacristylaw04.MacFronts'. -/
def macFrontsCard : Claim7 := { stood := { row := macFrontsRow, standIns := [], harness := (true, "867d20106800924a2e9da89b00f3721a369aab7b92974831b74b0c637bdf23e0"), looks := false }, kinds := [], alts := [], laidByText := true, laidKinds := [.data, .data], laidTests := true, laidLooks := .later }
def MacFrontsCardSaid : Prop := Claim7.holds Tryd.pinned (.plain (OpenSpec.ofChange macFrontsSpec)) macFrontsCard

/-- THE TIED CARD OF 'sacristylaw04.MacSames'. -/
def macSamesCard : Claim7 := { stood := { row := macSamesRow, standIns := [], harness := (true, "867d20106800924a2e9da89b00f3721a369aab7b92974831b74b0c637bdf23e0"), looks := false }, kinds := [], alts := [], laidByText := true, laidKinds := [.data, .data], laidTests := true, laidLooks := .later }
def MacSamesCardSaid : Prop := Claim7.holds Tryd.pinned (.plain (OpenSpec.ofChange macSamesSpec)) macSamesCard

/-- THE TIED CARD OF 'sacristylaw04.MacKeys'. -/
def macKeysCard : Claim7 := { stood := { row := macKeysRow, standIns := [], harness := (true, "867d20106800924a2e9da89b00f3721a369aab7b92974831b74b0c637bdf23e0"), looks := false }, kinds := [], alts := [], laidByText := true, laidKinds := [.data, .data], laidTests := true, laidLooks := .later }
def MacKeysCardSaid : Prop := Claim7.holds Tryd.pinned (.plain (OpenSpec.ofChange macKeysSpec)) macKeysCard

/-- THE SECOND FORM's CARD OF 'sacristylaw03.ShaSums'. -/
def shaSumsUptoCard : Claim7 := { stood := { row := shaSumsUptoRow, standIns := [], harness := (true, "867d20106800924a2e9da89b00f3721a369aab7b92974831b74b0c637bdf23e0"), looks := false }, kinds := [], alts := [], laidByText := true, laidKinds := [.data, .data], laidTests := true, laidLooks := .later }
def ShaSumsUptoCardSaid : Prop := Claim7.holds Tryd.pinned (.plain (OpenSpec.upto shaSumsSpec)) shaSumsUptoCard

/-- THE SECOND FORM's CARD OF 'sacristylaw03.ShaParts'. -/
def shaPartsUptoCard : Claim7 := { stood := { row := shaPartsUptoRow, standIns := [], harness := (true, "867d20106800924a2e9da89b00f3721a369aab7b92974831b74b0c637bdf23e0"), looks := false }, kinds := [], alts := [], laidByText := true, laidKinds := [.data, .data], laidTests := true, laidLooks := .later }
def ShaPartsUptoCardSaid : Prop := Claim7.holds Tryd.pinned (.plain (OpenSpec.upto shaPartsSpec)) shaPartsUptoCard

/-- THE SECOND FORM's CARD OF 'sacristylaw03.ShaFixed'. -/
def shaFixedUptoCard : Claim7 := { stood := { row := shaFixedUptoRow, standIns := [], harness := (true, "867d20106800924a2e9da89b00f3721a369aab7b92974831b74b0c637bdf23e0"), looks := false }, kinds := [], alts := [], laidByText := true, laidKinds := [.data, .data], laidTests := true, laidLooks := .later }
def ShaFixedUptoCardSaid : Prop := Claim7.holds Tryd.pinned (.plain (OpenSpec.upto shaFixedSpec)) shaFixedUptoCard

/-- THE SECOND FORM's CARD OF 'sacristylaw04.MacTags'. -/
def macTagsUptoCard : Claim7 := { stood := { row := macTagsUptoRow, standIns := [], harness := (true, "867d20106800924a2e9da89b00f3721a369aab7b92974831b74b0c637bdf23e0"), looks := false }, kinds := [], alts := [], laidByText := true, laidKinds := [.data, .data], laidTests := true, laidLooks := .later }
def MacTagsUptoCardSaid : Prop := Claim7.holds Tryd.pinned (.plain (OpenSpec.upto macTagsSpec)) macTagsUptoCard

/-- THE SECOND FORM's CARD OF 'sacristylaw04.MacExpands'. -/
def macExpandsUptoCard : Claim7 := { stood := { row := macExpandsUptoRow, standIns := [], harness := (true, "867d20106800924a2e9da89b00f3721a369aab7b92974831b74b0c637bdf23e0"), looks := false }, kinds := [], alts := [], laidByText := true, laidKinds := [.data, .data], laidTests := true, laidLooks := .later }
def MacExpandsUptoCardSaid : Prop := Claim7.holds Tryd.pinned (.plain (OpenSpec.upto macExpandsSpec)) macExpandsUptoCard

/-- THE SECOND FORM's CARD OF 'sacristylaw04.MacDerives'. -/
def macDerivesUptoCard : Claim7 := { stood := { row := macDerivesUptoRow, standIns := [], harness := (true, "867d20106800924a2e9da89b00f3721a369aab7b92974831b74b0c637bdf23e0"), looks := false }, kinds := [], alts := [], laidByText := true, laidKinds := [.data, .data], laidTests := true, laidLooks := .later }
def MacDerivesUptoCardSaid : Prop := Claim7.holds Tryd.pinned (.plain (OpenSpec.upto macDerivesSpec)) macDerivesUptoCard

/-- THE SECOND FORM's CARD OF 'sacristylaw04.MacFronts'. -/
def macFrontsUptoCard : Claim7 := { stood := { row := macFrontsUptoRow, standIns := [], harness := (true, "867d20106800924a2e9da89b00f3721a369aab7b92974831b74b0c637bdf23e0"), looks := false }, kinds := [], alts := [], laidByText := true, laidKinds := [.data, .data], laidTests := true, laidLooks := .later }
def MacFrontsUptoCardSaid : Prop := Claim7.holds Tryd.pinned (.plain (OpenSpec.upto macFrontsSpec)) macFrontsUptoCard

/-- THE SECOND FORM's CARD OF 'sacristylaw04.MacSames'. -/
def macSamesUptoCard : Claim7 := { stood := { row := macSamesUptoRow, standIns := [], harness := (true, "867d20106800924a2e9da89b00f3721a369aab7b92974831b74b0c637bdf23e0"), looks := false }, kinds := [], alts := [], laidByText := true, laidKinds := [.data, .data], laidTests := true, laidLooks := .later }
def MacSamesUptoCardSaid : Prop := Claim7.holds Tryd.pinned (.plain (OpenSpec.upto macSamesSpec)) macSamesUptoCard

/-- THE SECOND FORM's CARD OF 'sacristylaw04.MacKeys'. -/
def macKeysUptoCard : Claim7 := { stood := { row := macKeysUptoRow, standIns := [], harness := (true, "867d20106800924a2e9da89b00f3721a369aab7b92974831b74b0c637bdf23e0"), looks := false }, kinds := [], alts := [], laidByText := true, laidKinds := [.data, .data], laidTests := true, laidLooks := .later }
def MacKeysUptoCardSaid : Prop := Claim7.holds Tryd.pinned (.plain (OpenSpec.upto macKeysSpec)) macKeysUptoCard
end Rows
end Go.Proofs.YtpphjgljoapfpaaDoor
