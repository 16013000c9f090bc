/-
  DERIVED. GIVEN WITH THE SEED: THE CARDS: each row of YtnmmpiddmckghaaDoorRows.lean that lists a variable, with what it lists TIED to the program's text (the seventh form; the later family's looks); each row that meets fmt, with fmt's text TOLD by the authors' own Lean function (tested against real Go, not proved from fmt's source: count such statements apart). THE CARD IS WHAT COUNTS. Prove the row's statement (the work); the ties are given (YtnmmpiddmckghaaDoorTie.lean); close each card by the builder's one call (the guide's Derived/Test/ToyasCard.lean, 'card_holds'). Laid BY PROGRAM, IN A SANDBOX (cutbox-door.mjs). By AI agents, Wed Nov 11 2026. No macro, syntax, notation, axiom, sorry.
-/
import Derived.Test.YtnmmpiddmckghaaDoorRows
import GoSem.ClaimSeven
namespace Go.Proofs.YtnmmpiddmckghaaDoor
namespace Rows

/-- THE TIED CARD OF 'jetwaylaw13.SeatCounts'. -/
def seatCountsCard : Claim7 := { stood := { row := seatCountsRow, standIns := [], harness := (true, "05c2d7bf3378e06d308cc2b2c094a6a5c1c749cdaa4cb6a9c9f4e8ecb5d15e6a"), looks := false }, kinds := [], alts := [], laidByText := true, laidKinds := [.data, .data, .data], laidTests := true, laidLooks := .later }
def SeatCountsCardSaid : Prop := Claim7.holds Tryd.pinned (.plain (OpenSpec.ofChange seatCountsSpec)) seatCountsCard

/-- THE TIED CARD OF 'jetwaylaw13.SeatNames'. -/
def seatNamesCard : Claim7 := { stood := { row := seatNamesRow, standIns := [], harness := (true, "05c2d7bf3378e06d308cc2b2c094a6a5c1c749cdaa4cb6a9c9f4e8ecb5d15e6a"), looks := false }, kinds := [], alts := [], laidByText := true, laidKinds := [.data, .data, .data], laidTests := true, laidLooks := .later }
def SeatNamesCardSaid : Prop := Claim7.holds Tryd.pinned (.plain (OpenSpec.ofChange seatNamesSpec)) seatNamesCard

/-- THE TIED CARD OF 'jetwaylaw13.SeatBest'. -/
def seatBestCard : Claim7 := { stood := { row := seatBestRow, standIns := [], harness := (true, "05c2d7bf3378e06d308cc2b2c094a6a5c1c749cdaa4cb6a9c9f4e8ecb5d15e6a"), looks := false }, kinds := [], alts := [], laidByText := true, laidKinds := [.data, .data, .data], laidTests := true, laidLooks := .later }
def SeatBestCardSaid : Prop := Claim7.holds Tryd.pinned (.plain (OpenSpec.ofChange seatBestSpec)) seatBestCard

/-- THE TIED CARD OF 'jetwaylaw13.SeatBack'. -/
def seatBackCard : Claim7 := { stood := { row := seatBackRow, standIns := [], harness := (true, "05c2d7bf3378e06d308cc2b2c094a6a5c1c749cdaa4cb6a9c9f4e8ecb5d15e6a"), looks := false }, kinds := [], alts := [], laidByText := true, laidKinds := [.data, .data, .data], laidTests := true, laidLooks := .later }
def SeatBackCardSaid : Prop := Claim7.holds Tryd.pinned (.plain (OpenSpec.ofChange seatBackSpec)) seatBackCard

/-- THE TIED CARD OF 'jetwaylaw13.SeatFree'. -/
def seatFreeCard : Claim7 := { stood := { row := seatFreeRow, standIns := [], harness := (true, "05c2d7bf3378e06d308cc2b2c094a6a5c1c749cdaa4cb6a9c9f4e8ecb5d15e6a"), looks := false }, kinds := [], alts := [], laidByText := true, laidKinds := [.data, .data, .data], laidTests := true, laidLooks := .later }
def SeatFreeCardSaid : Prop := Claim7.holds Tryd.pinned (.plain (OpenSpec.ofChange seatFreeSpec)) seatFreeCard

/-- THE TIED CARD OF 'jetwaylaw13.SeatTogether'. -/
def seatTogetherCard : Claim7 := { stood := { row := seatTogetherRow, standIns := [], harness := (true, "05c2d7bf3378e06d308cc2b2c094a6a5c1c749cdaa4cb6a9c9f4e8ecb5d15e6a"), looks := false }, kinds := [], alts := [], laidByText := true, laidKinds := [.data, .data, .data], laidTests := true, laidLooks := .later }
def SeatTogetherCardSaid : Prop := Claim7.holds Tryd.pinned (.plain (OpenSpec.ofChange seatTogetherSpec)) seatTogetherCard

/-- THE TIED CARD OF 'jetwaylaw13.SeatApart'. -/
def seatApartCard : Claim7 := { stood := { row := seatApartRow, standIns := [], harness := (true, "05c2d7bf3378e06d308cc2b2c094a6a5c1c749cdaa4cb6a9c9f4e8ecb5d15e6a"), looks := false }, kinds := [], alts := [], laidByText := true, laidKinds := [.data, .data, .data], laidTests := true, laidLooks := .later }
def SeatApartCardSaid : Prop := Claim7.holds Tryd.pinned (.plain (OpenSpec.ofChange seatApartSpec)) seatApartCard

/-- THE SECOND FORM's CARD OF 'jetwaylaw13.SeatCounts'. -/
def seatCountsUptoCard : Claim7 := { stood := { row := seatCountsUptoRow, standIns := [], harness := (true, "05c2d7bf3378e06d308cc2b2c094a6a5c1c749cdaa4cb6a9c9f4e8ecb5d15e6a"), looks := false }, kinds := [], alts := [], laidByText := true, laidKinds := [.data, .data, .data], laidTests := true, laidLooks := .later }
def SeatCountsUptoCardSaid : Prop := Claim7.holds Tryd.pinned (.plain (OpenSpec.upto seatCountsSpec)) seatCountsUptoCard

/-- THE SECOND FORM's CARD OF 'jetwaylaw13.SeatNames'. -/
def seatNamesUptoCard : Claim7 := { stood := { row := seatNamesUptoRow, standIns := [], harness := (true, "05c2d7bf3378e06d308cc2b2c094a6a5c1c749cdaa4cb6a9c9f4e8ecb5d15e6a"), looks := false }, kinds := [], alts := [], laidByText := true, laidKinds := [.data, .data, .data], laidTests := true, laidLooks := .later }
def SeatNamesUptoCardSaid : Prop := Claim7.holds Tryd.pinned (.plain (OpenSpec.upto seatNamesSpec)) seatNamesUptoCard

/-- THE SECOND FORM's CARD OF 'jetwaylaw13.SeatBest'. -/
def seatBestUptoCard : Claim7 := { stood := { row := seatBestUptoRow, standIns := [], harness := (true, "05c2d7bf3378e06d308cc2b2c094a6a5c1c749cdaa4cb6a9c9f4e8ecb5d15e6a"), looks := false }, kinds := [], alts := [], laidByText := true, laidKinds := [.data, .data, .data], laidTests := true, laidLooks := .later }
def SeatBestUptoCardSaid : Prop := Claim7.holds Tryd.pinned (.plain (OpenSpec.upto seatBestSpec)) seatBestUptoCard

/-- THE SECOND FORM's CARD OF 'jetwaylaw13.SeatBack'. -/
def seatBackUptoCard : Claim7 := { stood := { row := seatBackUptoRow, standIns := [], harness := (true, "05c2d7bf3378e06d308cc2b2c094a6a5c1c749cdaa4cb6a9c9f4e8ecb5d15e6a"), looks := false }, kinds := [], alts := [], laidByText := true, laidKinds := [.data, .data, .data], laidTests := true, laidLooks := .later }
def SeatBackUptoCardSaid : Prop := Claim7.holds Tryd.pinned (.plain (OpenSpec.upto seatBackSpec)) seatBackUptoCard

/-- THE SECOND FORM's CARD OF 'jetwaylaw13.SeatFree'. -/
def seatFreeUptoCard : Claim7 := { stood := { row := seatFreeUptoRow, standIns := [], harness := (true, "05c2d7bf3378e06d308cc2b2c094a6a5c1c749cdaa4cb6a9c9f4e8ecb5d15e6a"), looks := false }, kinds := [], alts := [], laidByText := true, laidKinds := [.data, .data, .data], laidTests := true, laidLooks := .later }
def SeatFreeUptoCardSaid : Prop := Claim7.holds Tryd.pinned (.plain (OpenSpec.upto seatFreeSpec)) seatFreeUptoCard

/-- THE SECOND FORM's CARD OF 'jetwaylaw13.SeatTogether'. -/
def seatTogetherUptoCard : Claim7 := { stood := { row := seatTogetherUptoRow, standIns := [], harness := (true, "05c2d7bf3378e06d308cc2b2c094a6a5c1c749cdaa4cb6a9c9f4e8ecb5d15e6a"), looks := false }, kinds := [], alts := [], laidByText := true, laidKinds := [.data, .data, .data], laidTests := true, laidLooks := .later }
def SeatTogetherUptoCardSaid : Prop := Claim7.holds Tryd.pinned (.plain (OpenSpec.upto seatTogetherSpec)) seatTogetherUptoCard

/-- THE SECOND FORM's CARD OF 'jetwaylaw13.SeatApart'. -/
def seatApartUptoCard : Claim7 := { stood := { row := seatApartUptoRow, standIns := [], harness := (true, "05c2d7bf3378e06d308cc2b2c094a6a5c1c749cdaa4cb6a9c9f4e8ecb5d15e6a"), looks := false }, kinds := [], alts := [], laidByText := true, laidKinds := [.data, .data, .data], laidTests := true, laidLooks := .later }
def SeatApartUptoCardSaid : Prop := Claim7.holds Tryd.pinned (.plain (OpenSpec.upto seatApartSpec)) seatApartUptoCard
end Rows
end Go.Proofs.YtnmmpiddmckghaaDoor
