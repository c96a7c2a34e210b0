/-
  DERIVED. GIVEN WITH THE SEED: THE CARDS: each row of YtokhckjemidbpaaGreatDoorRows.lean that lists a variable, with what it lists TIED to the program's text (the seventh form; the later family's looks); each row that meets fmt, with fmt's text TOLD by the authors' own Lean function (tested against real Go, not proved from fmt's source: count such statements apart). THE CARD IS WHAT COUNTS. Prove the row's statement (the work); the ties are given (YtokhckjemidbpaaGreatDoorTie.lean); close each card by the builder's one call (the guide's Derived/Test/ToyasCard.lean, 'card_holds'). Laid BY PROGRAM, IN A SANDBOX (cutbox-door.mjs). By AI agents, Wed Nov 11 2026. No macro, syntax, notation, axiom, sorry.
-/
import Derived.Test.YtokhckjemidbpaaGreatDoorRows
import GoSem.ClaimSeven
namespace Go.Proofs.YtokhckjemidbpaaGreatDoor
namespace Rows

/-- THE TIED CARD OF 'sacristylaw11.SignSigns'. -/
def signSignsCard : Claim7 := { stood := { row := signSignsRow, standIns := [], harness := (true, "ca5eb2b31f47cdb75b8b8df8ead496238f8efa9c59ad4a7d4cf9f18d73f441da"), looks := false }, kinds := [], alts := [], laidByText := true, laidKinds := [.data, .data], laidTests := true, laidLooks := .later }
def SignSignsCardSaid : Prop := Claim7.holds Tryz.pinned (.plain (OpenSpec.ofChange signSignsSpec)) signSignsCard

/-- THE TIED CARD OF 'sacristylaw11.SignVerifies'. -/
def signVerifiesCard : Claim7 := { stood := { row := signVerifiesRow, standIns := [], harness := (true, "ca5eb2b31f47cdb75b8b8df8ead496238f8efa9c59ad4a7d4cf9f18d73f441da"), looks := false }, kinds := [], alts := [], laidByText := true, laidKinds := [.data, .data], laidTests := true, laidLooks := .later }
def SignVerifiesCardSaid : Prop := Claim7.holds Tryz.pinned (.plain (OpenSpec.ofChange signVerifiesSpec)) signVerifiesCard

/-- THE TIED CARD OF 'sacristylaw11.SignBack'. -/
def signBackCard : Claim7 := { stood := { row := signBackRow, standIns := [], harness := (true, "ca5eb2b31f47cdb75b8b8df8ead496238f8efa9c59ad4a7d4cf9f18d73f441da"), looks := false }, kinds := [], alts := [], laidByText := true, laidKinds := [.data, .data], laidTests := true, laidLooks := .later }
def SignBackCardSaid : Prop := Claim7.holds Tryz.pinned (.plain (OpenSpec.ofChange signBackSpec)) signBackCard

/-- THE TIED CARD OF 'sacristylaw11.SignExact'. -/
def signExactCard : Claim7 := { stood := { row := signExactRow, standIns := [], harness := (true, "ca5eb2b31f47cdb75b8b8df8ead496238f8efa9c59ad4a7d4cf9f18d73f441da"), looks := false }, kinds := [], alts := [], laidByText := true, laidKinds := [.data, .data], laidTests := true, laidLooks := .later }
def SignExactCardSaid : Prop := Claim7.holds Tryz.pinned (.plain (OpenSpec.ofChange signExactSpec)) signExactCard

/-- THE TIED CARD OF 'sacristylaw14.DealNews'. -/
def dealNewsCard : Claim7 := { stood := { row := dealNewsRow, standIns := [], harness := (true, "ca5eb2b31f47cdb75b8b8df8ead496238f8efa9c59ad4a7d4cf9f18d73f441da"), looks := false }, kinds := [], alts := [], laidByText := true, laidKinds := [.data, .data], laidTests := true, laidLooks := .later }
def DealNewsCardSaid : Prop := Claim7.holds Tryz.pinned (.plain (OpenSpec.ofChange dealNewsSpec)) dealNewsCard

/-- THE TIED CARD OF 'sacristylaw14.DealRecovers'. -/
def dealRecoversCard : Claim7 := { stood := { row := dealRecoversRow, standIns := [], harness := (true, "ca5eb2b31f47cdb75b8b8df8ead496238f8efa9c59ad4a7d4cf9f18d73f441da"), looks := false }, kinds := [], alts := [], laidByText := true, laidKinds := [.data, .data], laidTests := true, laidLooks := .later }
def DealRecoversCardSaid : Prop := Claim7.holds Tryz.pinned (.plain (OpenSpec.ofChange dealRecoversSpec)) dealRecoversCard

/-- THE TIED CARD OF 'sacristylaw14.DealBack'. -/
def dealBackCard : Claim7 := { stood := { row := dealBackRow, standIns := [], harness := (true, "ca5eb2b31f47cdb75b8b8df8ead496238f8efa9c59ad4a7d4cf9f18d73f441da"), looks := false }, kinds := [], alts := [], laidByText := true, laidKinds := [.data, .data], laidTests := true, laidLooks := .later }
def DealBackCardSaid : Prop := Claim7.holds Tryz.pinned (.plain (OpenSpec.ofChange dealBackSpec)) dealBackCard

/-- THE TIED CARD OF 'sacristylaw14.DealHides'. -/
def dealHidesCard : Claim7 := { stood := { row := dealHidesRow, standIns := [], harness := (true, "ca5eb2b31f47cdb75b8b8df8ead496238f8efa9c59ad4a7d4cf9f18d73f441da"), looks := false }, kinds := [], alts := [], laidByText := true, laidKinds := [.data, .data], laidTests := true, laidLooks := .later }
def DealHidesCardSaid : Prop := Claim7.holds Tryz.pinned (.plain (OpenSpec.ofChange dealHidesSpec)) dealHidesCard

/-- THE TIED CARD OF 'sacristylaw14.DealBytes'. -/
def dealBytesCard : Claim7 := { stood := { row := dealBytesRow, standIns := [], harness := (true, "ca5eb2b31f47cdb75b8b8df8ead496238f8efa9c59ad4a7d4cf9f18d73f441da"), looks := false }, kinds := [], alts := [], laidByText := true, laidKinds := [.data, .data], laidTests := true, laidLooks := .later }
def DealBytesCardSaid : Prop := Claim7.holds Tryz.pinned (.plain (OpenSpec.ofChange dealBytesSpec)) dealBytesCard

/-- THE TIED CARD OF 'sacristylaw14.DealAdds'. -/
def dealAddsCard : Claim7 := { stood := { row := dealAddsRow, standIns := [], harness := (true, "ca5eb2b31f47cdb75b8b8df8ead496238f8efa9c59ad4a7d4cf9f18d73f441da"), looks := false }, kinds := [], alts := [], laidByText := true, laidKinds := [.data, .data], laidTests := true, laidLooks := .later }
def DealAddsCardSaid : Prop := Claim7.holds Tryz.pinned (.plain (OpenSpec.ofChange dealAddsSpec)) dealAddsCard

/-- THE SECOND FORM's CARD OF 'sacristylaw11.SignSigns'. -/
def signSignsUptoCard : Claim7 := { stood := { row := signSignsUptoRow, standIns := [], harness := (true, "ca5eb2b31f47cdb75b8b8df8ead496238f8efa9c59ad4a7d4cf9f18d73f441da"), looks := false }, kinds := [], alts := [], laidByText := true, laidKinds := [.data, .data], laidTests := true, laidLooks := .later }
def SignSignsUptoCardSaid : Prop := Claim7.holds Tryz.pinned (.plain (OpenSpec.upto signSignsSpec)) signSignsUptoCard

/-- THE SECOND FORM's CARD OF 'sacristylaw11.SignVerifies'. -/
def signVerifiesUptoCard : Claim7 := { stood := { row := signVerifiesUptoRow, standIns := [], harness := (true, "ca5eb2b31f47cdb75b8b8df8ead496238f8efa9c59ad4a7d4cf9f18d73f441da"), looks := false }, kinds := [], alts := [], laidByText := true, laidKinds := [.data, .data], laidTests := true, laidLooks := .later }
def SignVerifiesUptoCardSaid : Prop := Claim7.holds Tryz.pinned (.plain (OpenSpec.upto signVerifiesSpec)) signVerifiesUptoCard

/-- THE SECOND FORM's CARD OF 'sacristylaw11.SignBack'. -/
def signBackUptoCard : Claim7 := { stood := { row := signBackUptoRow, standIns := [], harness := (true, "ca5eb2b31f47cdb75b8b8df8ead496238f8efa9c59ad4a7d4cf9f18d73f441da"), looks := false }, kinds := [], alts := [], laidByText := true, laidKinds := [.data, .data], laidTests := true, laidLooks := .later }
def SignBackUptoCardSaid : Prop := Claim7.holds Tryz.pinned (.plain (OpenSpec.upto signBackSpec)) signBackUptoCard

/-- THE SECOND FORM's CARD OF 'sacristylaw11.SignExact'. -/
def signExactUptoCard : Claim7 := { stood := { row := signExactUptoRow, standIns := [], harness := (true, "ca5eb2b31f47cdb75b8b8df8ead496238f8efa9c59ad4a7d4cf9f18d73f441da"), looks := false }, kinds := [], alts := [], laidByText := true, laidKinds := [.data, .data], laidTests := true, laidLooks := .later }
def SignExactUptoCardSaid : Prop := Claim7.holds Tryz.pinned (.plain (OpenSpec.upto signExactSpec)) signExactUptoCard

/-- THE SECOND FORM's CARD OF 'sacristylaw14.DealNews'. -/
def dealNewsUptoCard : Claim7 := { stood := { row := dealNewsUptoRow, standIns := [], harness := (true, "ca5eb2b31f47cdb75b8b8df8ead496238f8efa9c59ad4a7d4cf9f18d73f441da"), looks := false }, kinds := [], alts := [], laidByText := true, laidKinds := [.data, .data], laidTests := true, laidLooks := .later }
def DealNewsUptoCardSaid : Prop := Claim7.holds Tryz.pinned (.plain (OpenSpec.upto dealNewsSpec)) dealNewsUptoCard

/-- THE SECOND FORM's CARD OF 'sacristylaw14.DealRecovers'. -/
def dealRecoversUptoCard : Claim7 := { stood := { row := dealRecoversUptoRow, standIns := [], harness := (true, "ca5eb2b31f47cdb75b8b8df8ead496238f8efa9c59ad4a7d4cf9f18d73f441da"), looks := false }, kinds := [], alts := [], laidByText := true, laidKinds := [.data, .data], laidTests := true, laidLooks := .later }
def DealRecoversUptoCardSaid : Prop := Claim7.holds Tryz.pinned (.plain (OpenSpec.upto dealRecoversSpec)) dealRecoversUptoCard

/-- THE SECOND FORM's CARD OF 'sacristylaw14.DealBack'. -/
def dealBackUptoCard : Claim7 := { stood := { row := dealBackUptoRow, standIns := [], harness := (true, "ca5eb2b31f47cdb75b8b8df8ead496238f8efa9c59ad4a7d4cf9f18d73f441da"), looks := false }, kinds := [], alts := [], laidByText := true, laidKinds := [.data, .data], laidTests := true, laidLooks := .later }
def DealBackUptoCardSaid : Prop := Claim7.holds Tryz.pinned (.plain (OpenSpec.upto dealBackSpec)) dealBackUptoCard

/-- THE SECOND FORM's CARD OF 'sacristylaw14.DealHides'. -/
def dealHidesUptoCard : Claim7 := { stood := { row := dealHidesUptoRow, standIns := [], harness := (true, "ca5eb2b31f47cdb75b8b8df8ead496238f8efa9c59ad4a7d4cf9f18d73f441da"), looks := false }, kinds := [], alts := [], laidByText := true, laidKinds := [.data, .data], laidTests := true, laidLooks := .later }
def DealHidesUptoCardSaid : Prop := Claim7.holds Tryz.pinned (.plain (OpenSpec.upto dealHidesSpec)) dealHidesUptoCard

/-- THE SECOND FORM's CARD OF 'sacristylaw14.DealBytes'. -/
def dealBytesUptoCard : Claim7 := { stood := { row := dealBytesUptoRow, standIns := [], harness := (true, "ca5eb2b31f47cdb75b8b8df8ead496238f8efa9c59ad4a7d4cf9f18d73f441da"), looks := false }, kinds := [], alts := [], laidByText := true, laidKinds := [.data, .data], laidTests := true, laidLooks := .later }
def DealBytesUptoCardSaid : Prop := Claim7.holds Tryz.pinned (.plain (OpenSpec.upto dealBytesSpec)) dealBytesUptoCard

/-- THE SECOND FORM's CARD OF 'sacristylaw14.DealAdds'. -/
def dealAddsUptoCard : Claim7 := { stood := { row := dealAddsUptoRow, standIns := [], harness := (true, "ca5eb2b31f47cdb75b8b8df8ead496238f8efa9c59ad4a7d4cf9f18d73f441da"), looks := false }, kinds := [], alts := [], laidByText := true, laidKinds := [.data, .data], laidTests := true, laidLooks := .later }
def DealAddsUptoCardSaid : Prop := Claim7.holds Tryz.pinned (.plain (OpenSpec.upto dealAddsSpec)) dealAddsUptoCard
end Rows
end Go.Proofs.YtokhckjemidbpaaGreatDoor
