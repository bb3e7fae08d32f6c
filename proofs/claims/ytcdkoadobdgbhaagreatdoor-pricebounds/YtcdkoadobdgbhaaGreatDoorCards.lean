/-
  DERIVED. GIVEN WITH THE SEED: THE CARDS: each row of YtcdkoadobdgbhaaGreatDoorRows.lean that lists a variable, with what it lists TIED to the program's text (the seventh form; the later family's looks); each row that meets fmt, with fmt's text TOLD by the authors' own Lean function (tested against real Go, not proved from fmt's source: count such statements apart). THE CARD IS WHAT COUNTS. Prove the row's statement (the work); the ties are given (YtcdkoadobdgbhaaGreatDoorTie.lean); close each card by the builder's one call (the guide's Derived/Test/ToyasCard.lean, 'card_holds'). Laid BY PROGRAM, IN A SANDBOX (cutbox-door.mjs). By AI agents, Wed Nov 11 2026. No macro, syntax, notation, axiom, sorry.
-/
import Derived.Test.YtcdkoadobdgbhaaGreatDoorRows
import GoSem.ClaimSeven
namespace Go.Proofs.YtcdkoadobdgbhaaGreatDoor
namespace Rows

/-- THE TIED CARD OF 'noonbelllaw16.ResultTrade'. -/
def resultTradeCard : Claim7 := { stood := { row := resultTradeRow, standIns := [], harness := (true, "34aa0ab7a9a738dd2716f8b32b357a500106764c15f5e32b0d6031f1b9ff8910"), looks := false }, kinds := [], alts := [], laidByText := true, laidKinds := [.data, .data, .data], laidTests := true, laidLooks := .later }
def ResultTradeCardSaid : Prop := Claim7.holds Tryz.pinned (.plain (OpenSpec.ofChange resultTradeSpec)) resultTradeCard

/-- THE TIED CARD OF 'noonbelllaw16.ResultShapes'. -/
def resultShapesCard : Claim7 := { stood := { row := resultShapesRow, standIns := [], harness := (true, "34aa0ab7a9a738dd2716f8b32b357a500106764c15f5e32b0d6031f1b9ff8910"), looks := false }, kinds := [], alts := [], laidByText := true, laidKinds := [.data, .data, .data], laidTests := true, laidLooks := .later }
def ResultShapesCardSaid : Prop := Claim7.holds Tryz.pinned (.plain (OpenSpec.ofChange resultShapesSpec)) resultShapesCard

/-- THE TIED CARD OF 'noonbelllaw16.ResultChecks'. -/
def resultChecksCard : Claim7 := { stood := { row := resultChecksRow, standIns := [], harness := (true, "34aa0ab7a9a738dd2716f8b32b357a500106764c15f5e32b0d6031f1b9ff8910"), looks := false }, kinds := [], alts := [], laidByText := true, laidKinds := [.data, .data, .data], laidTests := true, laidLooks := .later }
def ResultChecksCardSaid : Prop := Claim7.holds Tryz.pinned (.plain (OpenSpec.ofChange resultChecksSpec)) resultChecksCard

/-- THE TIED CARD OF 'noonbelllaw16.ResultSpoilt'. -/
def resultSpoiltCard : Claim7 := { stood := { row := resultSpoiltRow, standIns := [], harness := (true, "34aa0ab7a9a738dd2716f8b32b357a500106764c15f5e32b0d6031f1b9ff8910"), looks := false }, kinds := [], alts := [], laidByText := true, laidKinds := [.data, .data, .data], laidTests := true, laidLooks := .later }
def ResultSpoiltCardSaid : Prop := Claim7.holds Tryz.pinned (.plain (OpenSpec.ofChange resultSpoiltSpec)) resultSpoiltCard

/-- THE TIED CARD OF 'noonbelllaw17.PriceBounds'. -/
def priceBoundsCard : Claim7 := { stood := { row := priceBoundsRow, standIns := [], harness := (true, "34aa0ab7a9a738dd2716f8b32b357a500106764c15f5e32b0d6031f1b9ff8910"), looks := false }, kinds := [], alts := [], laidByText := true, laidKinds := [.data, .data, .data], laidTests := true, laidLooks := .later }
def PriceBoundsCardSaid : Prop := Claim7.holds Tryz.pinned (.plain (OpenSpec.ofChange priceBoundsSpec)) priceBoundsCard

/-- THE SECOND FORM's CARD OF 'noonbelllaw16.ResultTrade'. -/
def resultTradeUptoCard : Claim7 := { stood := { row := resultTradeUptoRow, standIns := [], harness := (true, "34aa0ab7a9a738dd2716f8b32b357a500106764c15f5e32b0d6031f1b9ff8910"), looks := false }, kinds := [], alts := [], laidByText := true, laidKinds := [.data, .data, .data], laidTests := true, laidLooks := .later }
def ResultTradeUptoCardSaid : Prop := Claim7.holds Tryz.pinned (.plain (OpenSpec.upto resultTradeSpec)) resultTradeUptoCard

/-- THE SECOND FORM's CARD OF 'noonbelllaw16.ResultShapes'. -/
def resultShapesUptoCard : Claim7 := { stood := { row := resultShapesUptoRow, standIns := [], harness := (true, "34aa0ab7a9a738dd2716f8b32b357a500106764c15f5e32b0d6031f1b9ff8910"), looks := false }, kinds := [], alts := [], laidByText := true, laidKinds := [.data, .data, .data], laidTests := true, laidLooks := .later }
def ResultShapesUptoCardSaid : Prop := Claim7.holds Tryz.pinned (.plain (OpenSpec.upto resultShapesSpec)) resultShapesUptoCard

/-- THE SECOND FORM's CARD OF 'noonbelllaw16.ResultChecks'. -/
def resultChecksUptoCard : Claim7 := { stood := { row := resultChecksUptoRow, standIns := [], harness := (true, "34aa0ab7a9a738dd2716f8b32b357a500106764c15f5e32b0d6031f1b9ff8910"), looks := false }, kinds := [], alts := [], laidByText := true, laidKinds := [.data, .data, .data], laidTests := true, laidLooks := .later }
def ResultChecksUptoCardSaid : Prop := Claim7.holds Tryz.pinned (.plain (OpenSpec.upto resultChecksSpec)) resultChecksUptoCard

/-- THE SECOND FORM's CARD OF 'noonbelllaw16.ResultSpoilt'. -/
def resultSpoiltUptoCard : Claim7 := { stood := { row := resultSpoiltUptoRow, standIns := [], harness := (true, "34aa0ab7a9a738dd2716f8b32b357a500106764c15f5e32b0d6031f1b9ff8910"), looks := false }, kinds := [], alts := [], laidByText := true, laidKinds := [.data, .data, .data], laidTests := true, laidLooks := .later }
def ResultSpoiltUptoCardSaid : Prop := Claim7.holds Tryz.pinned (.plain (OpenSpec.upto resultSpoiltSpec)) resultSpoiltUptoCard

/-- THE SECOND FORM's CARD OF 'noonbelllaw17.PriceBounds'. -/
def priceBoundsUptoCard : Claim7 := { stood := { row := priceBoundsUptoRow, standIns := [], harness := (true, "34aa0ab7a9a738dd2716f8b32b357a500106764c15f5e32b0d6031f1b9ff8910"), looks := false }, kinds := [], alts := [], laidByText := true, laidKinds := [.data, .data, .data], laidTests := true, laidLooks := .later }
def PriceBoundsUptoCardSaid : Prop := Claim7.holds Tryz.pinned (.plain (OpenSpec.upto priceBoundsSpec)) priceBoundsUptoCard
end Rows
end Go.Proofs.YtcdkoadobdgbhaaGreatDoor
