/-
  DERIVED. GIVEN WITH THE SEED: THE CARDS: each row of YtnmfffgcepobpaaGreatDoorRows.lean that lists a variable, with what it lists TIED to the program's text (the seventh form; the later family's looks); each row that meets fmt, with fmt's text TOLD by the authors' own Lean function (tested against real Go, not proved from fmt's source: count such statements apart). THE CARD IS WHAT COUNTS. Prove the row's statement (the work); the ties are given (YtnmfffgcepobpaaGreatDoorTie.lean); close each card by the builder's one call (the guide's Derived/Test/ToyasCard.lean, 'card_holds'). Laid BY PROGRAM, IN A SANDBOX (cutbox-door.mjs). By AI agents, Wed Nov 11 2026. No macro, syntax, notation, axiom, sorry.
-/
import Derived.Test.YtnmfffgcepobpaaGreatDoorRows
import GoSem.ClaimSeven
namespace Go.Proofs.YtnmfffgcepobpaaGreatDoor
namespace Rows

/-- THE TIED CARD OF 'noonbelllaw03.RatShifts'. -/
def ratShiftsCard : Claim7 := { stood := { row := ratShiftsRow, standIns := [], harness := (true, "b61f40c0b1ce0abb69a7c68fa9153bb8d7358775767c449787e39ad3eb27795b"), looks := false }, kinds := [], alts := [], laidByText := true, laidKinds := [.data, .data, .data], laidTests := true, laidLooks := .later }
def RatShiftsCardSaid : Prop := Claim7.holds Tryz.pinned (.plain (OpenSpec.ofChange ratShiftsSpec)) ratShiftsCard

/-- THE TIED CARD OF 'noonbelllaw03.RatParts'. -/
def ratPartsCard : Claim7 := { stood := { row := ratPartsRow, standIns := [], harness := (true, "b61f40c0b1ce0abb69a7c68fa9153bb8d7358775767c449787e39ad3eb27795b"), looks := false }, kinds := [], alts := [], laidByText := true, laidKinds := [.data, .data, .data], laidTests := true, laidLooks := .later }
def RatPartsCardSaid : Prop := Claim7.holds Tryz.pinned (.plain (OpenSpec.ofChange ratPartsSpec)) ratPartsCard

/-- THE TIED CARD OF 'noonbelllaw03.RatLaws'. -/
def ratLawsCard : Claim7 := { stood := { row := ratLawsRow, standIns := [], harness := (true, "b61f40c0b1ce0abb69a7c68fa9153bb8d7358775767c449787e39ad3eb27795b"), looks := false }, kinds := [], alts := [], laidByText := true, laidKinds := [.data, .data, .data], laidTests := true, laidLooks := .later }
def RatLawsCardSaid : Prop := Claim7.holds Tryz.pinned (.plain (OpenSpec.ofChange ratLawsSpec)) ratLawsCard

/-- THE TIED CARD OF 'noonbelllaw03.RatRounds'. -/
def ratRoundsCard : Claim7 := { stood := { row := ratRoundsRow, standIns := [], harness := (true, "b61f40c0b1ce0abb69a7c68fa9153bb8d7358775767c449787e39ad3eb27795b"), looks := false }, kinds := [], alts := [], laidByText := true, laidKinds := [.data, .data, .data], laidTests := true, laidLooks := .later }
def RatRoundsCardSaid : Prop := Claim7.holds Tryz.pinned (.plain (OpenSpec.ofChange ratRoundsSpec)) ratRoundsCard

/-- THE TIED CARD OF 'noonbelllaw03.RatOne'. -/
def ratOneCard : Claim7 := { stood := { row := ratOneRow, standIns := [], harness := (true, "b61f40c0b1ce0abb69a7c68fa9153bb8d7358775767c449787e39ad3eb27795b"), looks := false }, kinds := [], alts := [], laidByText := true, laidKinds := [.data, .data, .data], laidTests := true, laidLooks := .later }
def RatOneCardSaid : Prop := Claim7.holds Tryz.pinned (.plain (OpenSpec.ofChange ratOneSpec)) ratOneCard

/-- THE SECOND FORM's CARD OF 'noonbelllaw03.RatShifts'. -/
def ratShiftsUptoCard : Claim7 := { stood := { row := ratShiftsUptoRow, standIns := [], harness := (true, "b61f40c0b1ce0abb69a7c68fa9153bb8d7358775767c449787e39ad3eb27795b"), looks := false }, kinds := [], alts := [], laidByText := true, laidKinds := [.data, .data, .data], laidTests := true, laidLooks := .later }
def RatShiftsUptoCardSaid : Prop := Claim7.holds Tryz.pinned (.plain (OpenSpec.upto ratShiftsSpec)) ratShiftsUptoCard

/-- THE SECOND FORM's CARD OF 'noonbelllaw03.RatParts'. -/
def ratPartsUptoCard : Claim7 := { stood := { row := ratPartsUptoRow, standIns := [], harness := (true, "b61f40c0b1ce0abb69a7c68fa9153bb8d7358775767c449787e39ad3eb27795b"), looks := false }, kinds := [], alts := [], laidByText := true, laidKinds := [.data, .data, .data], laidTests := true, laidLooks := .later }
def RatPartsUptoCardSaid : Prop := Claim7.holds Tryz.pinned (.plain (OpenSpec.upto ratPartsSpec)) ratPartsUptoCard

/-- THE SECOND FORM's CARD OF 'noonbelllaw03.RatLaws'. -/
def ratLawsUptoCard : Claim7 := { stood := { row := ratLawsUptoRow, standIns := [], harness := (true, "b61f40c0b1ce0abb69a7c68fa9153bb8d7358775767c449787e39ad3eb27795b"), looks := false }, kinds := [], alts := [], laidByText := true, laidKinds := [.data, .data, .data], laidTests := true, laidLooks := .later }
def RatLawsUptoCardSaid : Prop := Claim7.holds Tryz.pinned (.plain (OpenSpec.upto ratLawsSpec)) ratLawsUptoCard

/-- THE SECOND FORM's CARD OF 'noonbelllaw03.RatRounds'. -/
def ratRoundsUptoCard : Claim7 := { stood := { row := ratRoundsUptoRow, standIns := [], harness := (true, "b61f40c0b1ce0abb69a7c68fa9153bb8d7358775767c449787e39ad3eb27795b"), looks := false }, kinds := [], alts := [], laidByText := true, laidKinds := [.data, .data, .data], laidTests := true, laidLooks := .later }
def RatRoundsUptoCardSaid : Prop := Claim7.holds Tryz.pinned (.plain (OpenSpec.upto ratRoundsSpec)) ratRoundsUptoCard

/-- THE SECOND FORM's CARD OF 'noonbelllaw03.RatOne'. -/
def ratOneUptoCard : Claim7 := { stood := { row := ratOneUptoRow, standIns := [], harness := (true, "b61f40c0b1ce0abb69a7c68fa9153bb8d7358775767c449787e39ad3eb27795b"), looks := false }, kinds := [], alts := [], laidByText := true, laidKinds := [.data, .data, .data], laidTests := true, laidLooks := .later }
def RatOneUptoCardSaid : Prop := Claim7.holds Tryz.pinned (.plain (OpenSpec.upto ratOneSpec)) ratOneUptoCard
end Rows
end Go.Proofs.YtnmfffgcepobpaaGreatDoor
