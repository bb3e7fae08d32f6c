/-
  DERIVED. GIVEN WITH THE SEED: THE CARDS: each row of YtjldlmonccgopaaGreatDoorRows.lean that lists a variable, with what it lists TIED to the program's text (the seventh form; the later family's looks); each row that meets fmt, with fmt's text TOLD by the authors' own Lean function (tested against real Go, not proved from fmt's source: count such statements apart). THE CARD IS WHAT COUNTS. Prove the row's statement (the work); the ties are given (YtjldlmonccgopaaGreatDoorTie.lean); close each card by the builder's one call (the guide's Derived/Test/ToyasCard.lean, 'card_holds'). Laid BY PROGRAM, IN A SANDBOX (cutbox-door.mjs). By AI agents, Wed Nov 11 2026. No macro, syntax, notation, axiom, sorry.
-/
import Derived.Test.YtjldlmonccgopaaGreatDoorRows
import GoSem.ClaimSeven
namespace Go.Proofs.YtjldlmonccgopaaGreatDoor
namespace Rows

/-- THE TIED CARD OF 'noonbelllaw03.RatShifts'. -/
def ratShiftsCard : Claim7 := { stood := { row := ratShiftsRow, standIns := [], harness := (true, "8a6ffc9ec54e84bd39c5d281c20c95ddbebfdf1b434a92dea9646640f1b8f781"), looks := false }, kinds := [], alts := [], laidByText := true, laidKinds := [.data, .data, .data], laidTests := true, laidLooks := .later }
def RatShiftsCardSaid : Prop := Claim7.holds Tryz.pinned (.plain (OpenSpec.ofChange ratShiftsSpec)) ratShiftsCard

/-- THE TIED CARD OF 'noonbelllaw03.RatRounds'. -/
def ratRoundsCard : Claim7 := { stood := { row := ratRoundsRow, standIns := [], harness := (true, "8a6ffc9ec54e84bd39c5d281c20c95ddbebfdf1b434a92dea9646640f1b8f781"), looks := false }, kinds := [], alts := [], laidByText := true, laidKinds := [.data, .data, .data], laidTests := true, laidLooks := .later }
def RatRoundsCardSaid : Prop := Claim7.holds Tryz.pinned (.plain (OpenSpec.ofChange ratRoundsSpec)) ratRoundsCard

/-- THE SECOND FORM's CARD OF 'noonbelllaw03.RatShifts'. -/
def ratShiftsUptoCard : Claim7 := { stood := { row := ratShiftsUptoRow, standIns := [], harness := (true, "8a6ffc9ec54e84bd39c5d281c20c95ddbebfdf1b434a92dea9646640f1b8f781"), looks := false }, kinds := [], alts := [], laidByText := true, laidKinds := [.data, .data, .data], laidTests := true, laidLooks := .later }
def RatShiftsUptoCardSaid : Prop := Claim7.holds Tryz.pinned (.plain (OpenSpec.upto ratShiftsSpec)) ratShiftsUptoCard

/-- THE SECOND FORM's CARD OF 'noonbelllaw03.RatRounds'. -/
def ratRoundsUptoCard : Claim7 := { stood := { row := ratRoundsUptoRow, standIns := [], harness := (true, "8a6ffc9ec54e84bd39c5d281c20c95ddbebfdf1b434a92dea9646640f1b8f781"), looks := false }, kinds := [], alts := [], laidByText := true, laidKinds := [.data, .data, .data], laidTests := true, laidLooks := .later }
def RatRoundsUptoCardSaid : Prop := Claim7.holds Tryz.pinned (.plain (OpenSpec.upto ratRoundsSpec)) ratRoundsUptoCard
end Rows
end Go.Proofs.YtjldlmonccgopaaGreatDoor
