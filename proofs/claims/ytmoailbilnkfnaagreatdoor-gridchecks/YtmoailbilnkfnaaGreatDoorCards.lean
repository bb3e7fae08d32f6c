/-
  DERIVED. GIVEN WITH THE SEED: THE CARDS: each row of YtmoailbilnkfnaaGreatDoorRows.lean that lists a variable, with what it lists TIED to the program's text (the seventh form; the later family's looks); each row that meets fmt, with fmt's text TOLD by the authors' own Lean function (tested against real Go, not proved from fmt's source: count such statements apart). THE CARD IS WHAT COUNTS. Prove the row's statement (the work); the ties are given (YtmoailbilnkfnaaGreatDoorTie.lean); close each card by the builder's one call (the guide's Derived/Test/ToyasCard.lean, 'card_holds'). Laid BY PROGRAM, IN A SANDBOX (cutbox-door.mjs). By AI agents, Wed Nov 11 2026. No macro, syntax, notation, axiom, sorry.
-/
import Derived.Test.YtmoailbilnkfnaaGreatDoorRows
import GoSem.ClaimSeven
namespace Go.Proofs.YtmoailbilnkfnaaGreatDoor
namespace Rows

/-- THE TIED CARD OF 'noonbelllaw14.GridFlows'. -/
def gridFlowsCard : Claim7 := { stood := { row := gridFlowsRow, standIns := [], harness := (true, "fa4590eb74ce1654186a4e1a4ee35445a249850d16ad0fe100004bd390c6f531"), looks := false }, kinds := [], alts := [], laidByText := true, laidKinds := [.data, .data, .data], laidTests := true, laidLooks := .later }
def GridFlowsCardSaid : Prop := Claim7.holds Tryz.pinned (.plain (OpenSpec.ofChange gridFlowsSpec)) gridFlowsCard

/-- THE TIED CARD OF 'noonbelllaw14.GridChecks'. -/
def gridChecksCard : Claim7 := { stood := { row := gridChecksRow, standIns := [], harness := (true, "fa4590eb74ce1654186a4e1a4ee35445a249850d16ad0fe100004bd390c6f531"), looks := false }, kinds := [], alts := [], laidByText := true, laidKinds := [.data, .data, .data], laidTests := true, laidLooks := .later }
def GridChecksCardSaid : Prop := Claim7.holds Tryz.pinned (.plain (OpenSpec.ofChange gridChecksSpec)) gridChecksCard

/-- THE TIED CARD OF 'noonbelllaw14.GridSums'. -/
def gridSumsCard : Claim7 := { stood := { row := gridSumsRow, standIns := [], harness := (true, "fa4590eb74ce1654186a4e1a4ee35445a249850d16ad0fe100004bd390c6f531"), looks := false }, kinds := [], alts := [], laidByText := true, laidKinds := [.data, .data, .data], laidTests := true, laidLooks := .later }
def GridSumsCardSaid : Prop := Claim7.holds Tryz.pinned (.plain (OpenSpec.ofChange gridSumsSpec)) gridSumsCard

/-- THE SECOND FORM's CARD OF 'noonbelllaw14.GridFlows'. -/
def gridFlowsUptoCard : Claim7 := { stood := { row := gridFlowsUptoRow, standIns := [], harness := (true, "fa4590eb74ce1654186a4e1a4ee35445a249850d16ad0fe100004bd390c6f531"), looks := false }, kinds := [], alts := [], laidByText := true, laidKinds := [.data, .data, .data], laidTests := true, laidLooks := .later }
def GridFlowsUptoCardSaid : Prop := Claim7.holds Tryz.pinned (.plain (OpenSpec.upto gridFlowsSpec)) gridFlowsUptoCard

/-- THE SECOND FORM's CARD OF 'noonbelllaw14.GridChecks'. -/
def gridChecksUptoCard : Claim7 := { stood := { row := gridChecksUptoRow, standIns := [], harness := (true, "fa4590eb74ce1654186a4e1a4ee35445a249850d16ad0fe100004bd390c6f531"), looks := false }, kinds := [], alts := [], laidByText := true, laidKinds := [.data, .data, .data], laidTests := true, laidLooks := .later }
def GridChecksUptoCardSaid : Prop := Claim7.holds Tryz.pinned (.plain (OpenSpec.upto gridChecksSpec)) gridChecksUptoCard

/-- THE SECOND FORM's CARD OF 'noonbelllaw14.GridSums'. -/
def gridSumsUptoCard : Claim7 := { stood := { row := gridSumsUptoRow, standIns := [], harness := (true, "fa4590eb74ce1654186a4e1a4ee35445a249850d16ad0fe100004bd390c6f531"), looks := false }, kinds := [], alts := [], laidByText := true, laidKinds := [.data, .data, .data], laidTests := true, laidLooks := .later }
def GridSumsUptoCardSaid : Prop := Claim7.holds Tryz.pinned (.plain (OpenSpec.upto gridSumsSpec)) gridSumsUptoCard
end Rows
end Go.Proofs.YtmoailbilnkfnaaGreatDoor
