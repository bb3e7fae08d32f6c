/-
  DERIVED. GIVEN WITH THE SEED: THE CARDS: each row of YtpajpfbgmgjnnaaGreatDoorRows.lean that lists a variable, with what it lists TIED to the program's text (the seventh form; the later family's looks); each row that meets fmt, with fmt's text TOLD by the authors' own Lean function (tested against real Go, not proved from fmt's source: count such statements apart). THE CARD IS WHAT COUNTS. Prove the row's statement (the work); the ties are given (YtpajpfbgmgjnnaaGreatDoorTie.lean); close each card by the builder's one call (the guide's Derived/Test/ToyasCard.lean, 'card_holds'). Laid BY PROGRAM, IN A SANDBOX (cutbox-door.mjs). By AI agents, Wed Nov 11 2026. No macro, syntax, notation, axiom, sorry.
-/
import Derived.Test.YtpajpfbgmgjnnaaGreatDoorRows
import GoSem.ClaimSeven
namespace Go.Proofs.YtpajpfbgmgjnnaaGreatDoor
namespace Rows

/-- THE TIED CARD OF 'noonbelllaw03.RatOrder'. -/
def ratOrderCard : Claim7 := { stood := { row := ratOrderRow, standIns := [], harness := (true, "1dd8244252bd380ccb327e05b7bcae7908e8ac3d546689e2a68483aca9031be4"), looks := false }, kinds := [], alts := [], laidByText := true, laidKinds := [.data, .data, .data], laidTests := true, laidLooks := .later }
def RatOrderCardSaid : Prop := Claim7.holds Tryz.pinned (.plain (OpenSpec.ofChange ratOrderSpec)) ratOrderCard

/-- THE TIED CARD OF 'noonbelllaw03.RatShifts'. -/
def ratShiftsCard : Claim7 := { stood := { row := ratShiftsRow, standIns := [], harness := (true, "1dd8244252bd380ccb327e05b7bcae7908e8ac3d546689e2a68483aca9031be4"), looks := false }, kinds := [], alts := [], laidByText := true, laidKinds := [.data, .data, .data], laidTests := true, laidLooks := .later }
def RatShiftsCardSaid : Prop := Claim7.holds Tryz.pinned (.plain (OpenSpec.ofChange ratShiftsSpec)) ratShiftsCard

/-- THE TIED CARD OF 'noonbelllaw03.RatParts'. -/
def ratPartsCard : Claim7 := { stood := { row := ratPartsRow, standIns := [], harness := (true, "1dd8244252bd380ccb327e05b7bcae7908e8ac3d546689e2a68483aca9031be4"), looks := false }, kinds := [], alts := [], laidByText := true, laidKinds := [.data, .data, .data], laidTests := true, laidLooks := .later }
def RatPartsCardSaid : Prop := Claim7.holds Tryz.pinned (.plain (OpenSpec.ofChange ratPartsSpec)) ratPartsCard

/-- THE TIED CARD OF 'noonbelllaw03.RatTexts'. -/
def ratTextsCard : Claim7 := { stood := { row := ratTextsRow, standIns := [], harness := (true, "1dd8244252bd380ccb327e05b7bcae7908e8ac3d546689e2a68483aca9031be4"), looks := false }, kinds := [], alts := [], laidByText := true, laidKinds := [.data, .data, .data], laidTests := true, laidLooks := .later }
def RatTextsCardSaid : Prop := Claim7.holds Tryz.pinned (.plain (OpenSpec.ofChange ratTextsSpec)) ratTextsCard

/-- THE TIED CARD OF 'noonbelllaw03.RatSums'. -/
def ratSumsCard : Claim7 := { stood := { row := ratSumsRow, standIns := [], harness := (true, "1dd8244252bd380ccb327e05b7bcae7908e8ac3d546689e2a68483aca9031be4"), looks := false }, kinds := [], alts := [], laidByText := true, laidKinds := [.data, .data, .data], laidTests := true, laidLooks := .later }
def RatSumsCardSaid : Prop := Claim7.holds Tryz.pinned (.plain (OpenSpec.ofChange ratSumsSpec)) ratSumsCard

/-- THE SECOND FORM's CARD OF 'noonbelllaw03.RatOrder'. -/
def ratOrderUptoCard : Claim7 := { stood := { row := ratOrderUptoRow, standIns := [], harness := (true, "1dd8244252bd380ccb327e05b7bcae7908e8ac3d546689e2a68483aca9031be4"), looks := false }, kinds := [], alts := [], laidByText := true, laidKinds := [.data, .data, .data], laidTests := true, laidLooks := .later }
def RatOrderUptoCardSaid : Prop := Claim7.holds Tryz.pinned (.plain (OpenSpec.upto ratOrderSpec)) ratOrderUptoCard

/-- THE SECOND FORM's CARD OF 'noonbelllaw03.RatShifts'. -/
def ratShiftsUptoCard : Claim7 := { stood := { row := ratShiftsUptoRow, standIns := [], harness := (true, "1dd8244252bd380ccb327e05b7bcae7908e8ac3d546689e2a68483aca9031be4"), looks := false }, kinds := [], alts := [], laidByText := true, laidKinds := [.data, .data, .data], laidTests := true, laidLooks := .later }
def RatShiftsUptoCardSaid : Prop := Claim7.holds Tryz.pinned (.plain (OpenSpec.upto ratShiftsSpec)) ratShiftsUptoCard

/-- THE SECOND FORM's CARD OF 'noonbelllaw03.RatParts'. -/
def ratPartsUptoCard : Claim7 := { stood := { row := ratPartsUptoRow, standIns := [], harness := (true, "1dd8244252bd380ccb327e05b7bcae7908e8ac3d546689e2a68483aca9031be4"), looks := false }, kinds := [], alts := [], laidByText := true, laidKinds := [.data, .data, .data], laidTests := true, laidLooks := .later }
def RatPartsUptoCardSaid : Prop := Claim7.holds Tryz.pinned (.plain (OpenSpec.upto ratPartsSpec)) ratPartsUptoCard

/-- THE SECOND FORM's CARD OF 'noonbelllaw03.RatTexts'. -/
def ratTextsUptoCard : Claim7 := { stood := { row := ratTextsUptoRow, standIns := [], harness := (true, "1dd8244252bd380ccb327e05b7bcae7908e8ac3d546689e2a68483aca9031be4"), looks := false }, kinds := [], alts := [], laidByText := true, laidKinds := [.data, .data, .data], laidTests := true, laidLooks := .later }
def RatTextsUptoCardSaid : Prop := Claim7.holds Tryz.pinned (.plain (OpenSpec.upto ratTextsSpec)) ratTextsUptoCard

/-- THE SECOND FORM's CARD OF 'noonbelllaw03.RatSums'. -/
def ratSumsUptoCard : Claim7 := { stood := { row := ratSumsUptoRow, standIns := [], harness := (true, "1dd8244252bd380ccb327e05b7bcae7908e8ac3d546689e2a68483aca9031be4"), looks := false }, kinds := [], alts := [], laidByText := true, laidKinds := [.data, .data, .data], laidTests := true, laidLooks := .later }
def RatSumsUptoCardSaid : Prop := Claim7.holds Tryz.pinned (.plain (OpenSpec.upto ratSumsSpec)) ratSumsUptoCard
end Rows
end Go.Proofs.YtpajpfbgmgjnnaaGreatDoor
