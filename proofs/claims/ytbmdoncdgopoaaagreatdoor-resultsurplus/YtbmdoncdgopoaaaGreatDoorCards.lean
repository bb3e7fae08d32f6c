/-
  DERIVED. GIVEN WITH THE SEED: THE CARDS: each row of YtbmdoncdgopoaaaGreatDoorRows.lean that lists a variable, with what it lists TIED to the program's text (the seventh form; the later family's looks); each row that meets fmt, with fmt's text TOLD by the authors' own Lean function (tested against real Go, not proved from fmt's source: count such statements apart). THE CARD IS WHAT COUNTS. Prove the row's statement (the work); the ties are given (YtbmdoncdgopoaaaGreatDoorTie.lean); close each card by the builder's one call (the guide's Derived/Test/ToyasCard.lean, 'card_holds'). Laid BY PROGRAM, IN A SANDBOX (cutbox-door.mjs). By AI agents, Wed Nov 11 2026. No macro, syntax, notation, axiom, sorry.
-/
import Derived.Test.YtbmdoncdgopoaaaGreatDoorRows
import GoSem.ClaimSeven
namespace Go.Proofs.YtbmdoncdgopoaaaGreatDoor
namespace Rows

/-- THE TIED CARD OF 'noonbelllaw16.ResultTrade'. -/
def resultTradeCard : Claim7 := { stood := { row := resultTradeRow, standIns := [], harness := (true, "e9f72ff335a73abf6d766f2c94cbfdb2ec5c30121252b491d85b9cc012d9efc0"), looks := false }, kinds := [], alts := [], laidByText := true, laidKinds := [.data, .data, .data], laidTests := true, laidLooks := .later }
def ResultTradeCardSaid : Prop := Claim7.holds Tryz.pinned (.plain (OpenSpec.ofChange resultTradeSpec)) resultTradeCard

/-- THE TIED CARD OF 'noonbelllaw16.ResultShapes'. -/
def resultShapesCard : Claim7 := { stood := { row := resultShapesRow, standIns := [], harness := (true, "e9f72ff335a73abf6d766f2c94cbfdb2ec5c30121252b491d85b9cc012d9efc0"), looks := false }, kinds := [], alts := [], laidByText := true, laidKinds := [.data, .data, .data], laidTests := true, laidLooks := .later }
def ResultShapesCardSaid : Prop := Claim7.holds Tryz.pinned (.plain (OpenSpec.ofChange resultShapesSpec)) resultShapesCard

/-- THE TIED CARD OF 'noonbelllaw16.ResultChecks'. -/
def resultChecksCard : Claim7 := { stood := { row := resultChecksRow, standIns := [], harness := (true, "e9f72ff335a73abf6d766f2c94cbfdb2ec5c30121252b491d85b9cc012d9efc0"), looks := false }, kinds := [], alts := [], laidByText := true, laidKinds := [.data, .data, .data], laidTests := true, laidLooks := .later }
def ResultChecksCardSaid : Prop := Claim7.holds Tryz.pinned (.plain (OpenSpec.ofChange resultChecksSpec)) resultChecksCard

/-- THE TIED CARD OF 'noonbelllaw16.ResultSurplus'. -/
def resultSurplusCard : Claim7 := { stood := { row := resultSurplusRow, standIns := [], harness := (true, "e9f72ff335a73abf6d766f2c94cbfdb2ec5c30121252b491d85b9cc012d9efc0"), looks := false }, kinds := [], alts := [], laidByText := true, laidKinds := [.data, .data, .data], laidTests := true, laidLooks := .later }
def ResultSurplusCardSaid : Prop := Claim7.holds Tryz.pinned (.plain (OpenSpec.ofChange resultSurplusSpec)) resultSurplusCard

/-- THE TIED CARD OF 'noonbelllaw16.ResultSpoilt'. -/
def resultSpoiltCard : Claim7 := { stood := { row := resultSpoiltRow, standIns := [], harness := (true, "e9f72ff335a73abf6d766f2c94cbfdb2ec5c30121252b491d85b9cc012d9efc0"), looks := false }, kinds := [], alts := [], laidByText := true, laidKinds := [.data, .data, .data], laidTests := true, laidLooks := .later }
def ResultSpoiltCardSaid : Prop := Claim7.holds Tryz.pinned (.plain (OpenSpec.ofChange resultSpoiltSpec)) resultSpoiltCard

/-- THE SECOND FORM's CARD OF 'noonbelllaw16.ResultTrade'. -/
def resultTradeUptoCard : Claim7 := { stood := { row := resultTradeUptoRow, standIns := [], harness := (true, "e9f72ff335a73abf6d766f2c94cbfdb2ec5c30121252b491d85b9cc012d9efc0"), looks := false }, kinds := [], alts := [], laidByText := true, laidKinds := [.data, .data, .data], laidTests := true, laidLooks := .later }
def ResultTradeUptoCardSaid : Prop := Claim7.holds Tryz.pinned (.plain (OpenSpec.upto resultTradeSpec)) resultTradeUptoCard

/-- THE SECOND FORM's CARD OF 'noonbelllaw16.ResultShapes'. -/
def resultShapesUptoCard : Claim7 := { stood := { row := resultShapesUptoRow, standIns := [], harness := (true, "e9f72ff335a73abf6d766f2c94cbfdb2ec5c30121252b491d85b9cc012d9efc0"), looks := false }, kinds := [], alts := [], laidByText := true, laidKinds := [.data, .data, .data], laidTests := true, laidLooks := .later }
def ResultShapesUptoCardSaid : Prop := Claim7.holds Tryz.pinned (.plain (OpenSpec.upto resultShapesSpec)) resultShapesUptoCard

/-- THE SECOND FORM's CARD OF 'noonbelllaw16.ResultChecks'. -/
def resultChecksUptoCard : Claim7 := { stood := { row := resultChecksUptoRow, standIns := [], harness := (true, "e9f72ff335a73abf6d766f2c94cbfdb2ec5c30121252b491d85b9cc012d9efc0"), looks := false }, kinds := [], alts := [], laidByText := true, laidKinds := [.data, .data, .data], laidTests := true, laidLooks := .later }
def ResultChecksUptoCardSaid : Prop := Claim7.holds Tryz.pinned (.plain (OpenSpec.upto resultChecksSpec)) resultChecksUptoCard

/-- THE SECOND FORM's CARD OF 'noonbelllaw16.ResultSurplus'. -/
def resultSurplusUptoCard : Claim7 := { stood := { row := resultSurplusUptoRow, standIns := [], harness := (true, "e9f72ff335a73abf6d766f2c94cbfdb2ec5c30121252b491d85b9cc012d9efc0"), looks := false }, kinds := [], alts := [], laidByText := true, laidKinds := [.data, .data, .data], laidTests := true, laidLooks := .later }
def ResultSurplusUptoCardSaid : Prop := Claim7.holds Tryz.pinned (.plain (OpenSpec.upto resultSurplusSpec)) resultSurplusUptoCard

/-- THE SECOND FORM's CARD OF 'noonbelllaw16.ResultSpoilt'. -/
def resultSpoiltUptoCard : Claim7 := { stood := { row := resultSpoiltUptoRow, standIns := [], harness := (true, "e9f72ff335a73abf6d766f2c94cbfdb2ec5c30121252b491d85b9cc012d9efc0"), looks := false }, kinds := [], alts := [], laidByText := true, laidKinds := [.data, .data, .data], laidTests := true, laidLooks := .later }
def ResultSpoiltUptoCardSaid : Prop := Claim7.holds Tryz.pinned (.plain (OpenSpec.upto resultSpoiltSpec)) resultSpoiltUptoCard
end Rows
end Go.Proofs.YtbmdoncdgopoaaaGreatDoor
