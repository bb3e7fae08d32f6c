/-
  DERIVED. GIVEN WITH THE SEED: THE CARDS: each row of YtgojlegknlalpaaGreatDoorRows.lean that lists a variable, with what it lists TIED to the program's text (the seventh form; the later family's looks); each row that meets fmt, with fmt's text TOLD by the authors' own Lean function (tested against real Go, not proved from fmt's source: count such statements apart). THE CARD IS WHAT COUNTS. Prove the row's statement (the work); the ties are given (YtgojlegknlalpaaGreatDoorTie.lean); close each card by the builder's one call (the guide's Derived/Test/ToyasCard.lean, 'card_holds'). Laid BY PROGRAM, IN A SANDBOX (cutbox-door.mjs). By AI agents, Wed Nov 11 2026. No macro, syntax, notation, axiom, sorry.
-/
import Derived.Test.YtgojlegknlalpaaGreatDoorRows
import GoSem.ClaimSeven
namespace Go.Proofs.YtgojlegknlalpaaGreatDoor
namespace Rows

/-- THE TIED CARD OF 'noonbelllaw12.TableauZero'. -/
def tableauZeroCard : Claim7 := { stood := { row := tableauZeroRow, standIns := [], harness := (true, "7b0f14976919eaf6158ea9bc2912dcf4be4934cd17b8b10ca7442d1cc9c7e452"), looks := false }, kinds := [], alts := [], laidByText := true, laidKinds := [.data, .data, .data], laidTests := true, laidLooks := .later }
def TableauZeroCardSaid : Prop := Claim7.holds Tryz.pinned (.plain (OpenSpec.ofChange tableauZeroSpec)) tableauZeroCard

/-- THE TIED CARD OF 'noonbelllaw12.TableauOne'. -/
def tableauOneCard : Claim7 := { stood := { row := tableauOneRow, standIns := [], harness := (true, "7b0f14976919eaf6158ea9bc2912dcf4be4934cd17b8b10ca7442d1cc9c7e452"), looks := false }, kinds := [], alts := [], laidByText := true, laidKinds := [.data, .data, .data], laidTests := true, laidLooks := .later }
def TableauOneCardSaid : Prop := Claim7.holds Tryz.pinned (.plain (OpenSpec.ofChange tableauOneSpec)) tableauOneCard

/-- THE TIED CARD OF 'noonbelllaw12.TableauScript'. -/
def tableauScriptCard : Claim7 := { stood := { row := tableauScriptRow, standIns := [], harness := (true, "7b0f14976919eaf6158ea9bc2912dcf4be4934cd17b8b10ca7442d1cc9c7e452"), looks := false }, kinds := [], alts := [], laidByText := true, laidKinds := [.data, .data, .data], laidTests := true, laidLooks := .later }
def TableauScriptCardSaid : Prop := Claim7.holds Tryz.pinned (.plain (OpenSpec.ofChange tableauScriptSpec)) tableauScriptCard

/-- THE TIED CARD OF 'noonbelllaw12.TableauColumn'. -/
def tableauColumnCard : Claim7 := { stood := { row := tableauColumnRow, standIns := [], harness := (true, "7b0f14976919eaf6158ea9bc2912dcf4be4934cd17b8b10ca7442d1cc9c7e452"), looks := false }, kinds := [], alts := [], laidByText := true, laidKinds := [.data, .data, .data], laidTests := true, laidLooks := .later }
def TableauColumnCardSaid : Prop := Claim7.holds Tryz.pinned (.plain (OpenSpec.ofChange tableauColumnSpec)) tableauColumnCard

/-- THE TIED CARD OF 'noonbelllaw12.TableauKeeps'. -/
def tableauKeepsCard : Claim7 := { stood := { row := tableauKeepsRow, standIns := [], harness := (true, "7b0f14976919eaf6158ea9bc2912dcf4be4934cd17b8b10ca7442d1cc9c7e452"), looks := false }, kinds := [], alts := [], laidByText := true, laidKinds := [.data, .data, .data], laidTests := true, laidLooks := .later }
def TableauKeepsCardSaid : Prop := Claim7.holds Tryz.pinned (.plain (OpenSpec.ofChange tableauKeepsSpec)) tableauKeepsCard

/-- THE TIED CARD OF 'noonbelllaw12.TableauBack'. -/
def tableauBackCard : Claim7 := { stood := { row := tableauBackRow, standIns := [], harness := (true, "7b0f14976919eaf6158ea9bc2912dcf4be4934cd17b8b10ca7442d1cc9c7e452"), looks := false }, kinds := [], alts := [], laidByText := true, laidKinds := [.data, .data, .data], laidTests := true, laidLooks := .later }
def TableauBackCardSaid : Prop := Claim7.holds Tryz.pinned (.plain (OpenSpec.ofChange tableauBackSpec)) tableauBackCard

/-- THE SECOND FORM's CARD OF 'noonbelllaw12.TableauZero'. -/
def tableauZeroUptoCard : Claim7 := { stood := { row := tableauZeroUptoRow, standIns := [], harness := (true, "7b0f14976919eaf6158ea9bc2912dcf4be4934cd17b8b10ca7442d1cc9c7e452"), looks := false }, kinds := [], alts := [], laidByText := true, laidKinds := [.data, .data, .data], laidTests := true, laidLooks := .later }
def TableauZeroUptoCardSaid : Prop := Claim7.holds Tryz.pinned (.plain (OpenSpec.upto tableauZeroSpec)) tableauZeroUptoCard

/-- THE SECOND FORM's CARD OF 'noonbelllaw12.TableauOne'. -/
def tableauOneUptoCard : Claim7 := { stood := { row := tableauOneUptoRow, standIns := [], harness := (true, "7b0f14976919eaf6158ea9bc2912dcf4be4934cd17b8b10ca7442d1cc9c7e452"), looks := false }, kinds := [], alts := [], laidByText := true, laidKinds := [.data, .data, .data], laidTests := true, laidLooks := .later }
def TableauOneUptoCardSaid : Prop := Claim7.holds Tryz.pinned (.plain (OpenSpec.upto tableauOneSpec)) tableauOneUptoCard

/-- THE SECOND FORM's CARD OF 'noonbelllaw12.TableauScript'. -/
def tableauScriptUptoCard : Claim7 := { stood := { row := tableauScriptUptoRow, standIns := [], harness := (true, "7b0f14976919eaf6158ea9bc2912dcf4be4934cd17b8b10ca7442d1cc9c7e452"), looks := false }, kinds := [], alts := [], laidByText := true, laidKinds := [.data, .data, .data], laidTests := true, laidLooks := .later }
def TableauScriptUptoCardSaid : Prop := Claim7.holds Tryz.pinned (.plain (OpenSpec.upto tableauScriptSpec)) tableauScriptUptoCard

/-- THE SECOND FORM's CARD OF 'noonbelllaw12.TableauColumn'. -/
def tableauColumnUptoCard : Claim7 := { stood := { row := tableauColumnUptoRow, standIns := [], harness := (true, "7b0f14976919eaf6158ea9bc2912dcf4be4934cd17b8b10ca7442d1cc9c7e452"), looks := false }, kinds := [], alts := [], laidByText := true, laidKinds := [.data, .data, .data], laidTests := true, laidLooks := .later }
def TableauColumnUptoCardSaid : Prop := Claim7.holds Tryz.pinned (.plain (OpenSpec.upto tableauColumnSpec)) tableauColumnUptoCard

/-- THE SECOND FORM's CARD OF 'noonbelllaw12.TableauKeeps'. -/
def tableauKeepsUptoCard : Claim7 := { stood := { row := tableauKeepsUptoRow, standIns := [], harness := (true, "7b0f14976919eaf6158ea9bc2912dcf4be4934cd17b8b10ca7442d1cc9c7e452"), looks := false }, kinds := [], alts := [], laidByText := true, laidKinds := [.data, .data, .data], laidTests := true, laidLooks := .later }
def TableauKeepsUptoCardSaid : Prop := Claim7.holds Tryz.pinned (.plain (OpenSpec.upto tableauKeepsSpec)) tableauKeepsUptoCard

/-- THE SECOND FORM's CARD OF 'noonbelllaw12.TableauBack'. -/
def tableauBackUptoCard : Claim7 := { stood := { row := tableauBackUptoRow, standIns := [], harness := (true, "7b0f14976919eaf6158ea9bc2912dcf4be4934cd17b8b10ca7442d1cc9c7e452"), looks := false }, kinds := [], alts := [], laidByText := true, laidKinds := [.data, .data, .data], laidTests := true, laidLooks := .later }
def TableauBackUptoCardSaid : Prop := Claim7.holds Tryz.pinned (.plain (OpenSpec.upto tableauBackSpec)) tableauBackUptoCard
end Rows
end Go.Proofs.YtgojlegknlalpaaGreatDoor
