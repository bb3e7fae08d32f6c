/-
  DERIVED. GIVEN WITH THE SEED: THE CARDS: each row of YthhikmlbpagknaaDoorRows.lean that lists a variable, with what it lists TIED to the program's text (the seventh form; the later family's looks); each row that meets fmt, with fmt's text TOLD by the authors' own Lean function (tested against real Go, not proved from fmt's source: count such statements apart). THE CARD IS WHAT COUNTS. Prove the row's statement (the work); the ties are given (YthhikmlbpagknaaDoorTie.lean); close each card by the builder's one call (the guide's Derived/Test/ToyasCard.lean, 'card_holds'). Laid BY PROGRAM, IN A SANDBOX (cutbox-door.mjs). By AI agents, Wed Nov 11 2026. No macro, syntax, notation, axiom, sorry.
-/
import Derived.Test.YthhikmlbpagknaaDoorRows
import GoSem.ClaimSeven
namespace Go.Proofs.YthhikmlbpagknaaDoor
namespace Rows

/-- THE TIED CARD OF 'noonbelllaw09.OrderFields'. -/
def orderFieldsCard : Claim7 := { stood := { row := orderFieldsRow, standIns := [], harness := (true, "33d2c1576cc1c14b8dfd4d49f8cc3f43d8ae265273ed5b1757da01c243d229d3"), looks := true }, kinds := [], alts := [], laidByText := true, laidKinds := [.data, .pinned], laidTests := true, laidLooks := .later }
def OrderFieldsCardSaid : Prop := Claim7.holds Tryd.pinned (.plain (OpenSpec.ofChange orderFieldsSpec)) orderFieldsCard

/-- THE TIED CARD OF 'noonbelllaw09.OrderParses'. -/
def orderParsesCard : Claim7 := { stood := { row := orderParsesRow, standIns := [], harness := (true, "33d2c1576cc1c14b8dfd4d49f8cc3f43d8ae265273ed5b1757da01c243d229d3"), looks := true }, kinds := [], alts := [], laidByText := true, laidKinds := [.data, .pinned], laidTests := true, laidLooks := .later }
def OrderParsesCardSaid : Prop := Claim7.holds Tryd.pinned (.plain (OpenSpec.ofChange orderParsesSpec)) orderParsesCard

/-- THE TIED CARD OF 'noonbelllaw09.OrderBack'. -/
def orderBackCard : Claim7 := { stood := { row := orderBackRow, standIns := [], harness := (true, "33d2c1576cc1c14b8dfd4d49f8cc3f43d8ae265273ed5b1757da01c243d229d3"), looks := true }, kinds := [], alts := [], laidByText := true, laidKinds := [.data, .pinned], laidTests := true, laidLooks := .later }
def OrderBackCardSaid : Prop := Claim7.holds Tryd.pinned (.plain (OpenSpec.ofChange orderBackSpec)) orderBackCard

/-- THE TIED CARD OF 'noonbelllaw09.OrderWithin'. -/
def orderWithinCard : Claim7 := { stood := { row := orderWithinRow, standIns := [], harness := (true, "33d2c1576cc1c14b8dfd4d49f8cc3f43d8ae265273ed5b1757da01c243d229d3"), looks := true }, kinds := [], alts := [], laidByText := true, laidKinds := [.data, .pinned], laidTests := true, laidLooks := .later }
def OrderWithinCardSaid : Prop := Claim7.holds Tryd.pinned (.plain (OpenSpec.ofChange orderWithinSpec)) orderWithinCard

/-- THE SECOND FORM's CARD OF 'noonbelllaw09.OrderFields'. -/
def orderFieldsUptoCard : Claim7 := { stood := { row := orderFieldsUptoRow, standIns := [], harness := (true, "33d2c1576cc1c14b8dfd4d49f8cc3f43d8ae265273ed5b1757da01c243d229d3"), looks := true }, kinds := [], alts := [], laidByText := true, laidKinds := [.data, .pinned], laidTests := true, laidLooks := .later }
def OrderFieldsUptoCardSaid : Prop := Claim7.holds Tryd.pinned (.plain (OpenSpec.upto orderFieldsSpec)) orderFieldsUptoCard

/-- THE SECOND FORM's CARD OF 'noonbelllaw09.OrderParses'. -/
def orderParsesUptoCard : Claim7 := { stood := { row := orderParsesUptoRow, standIns := [], harness := (true, "33d2c1576cc1c14b8dfd4d49f8cc3f43d8ae265273ed5b1757da01c243d229d3"), looks := true }, kinds := [], alts := [], laidByText := true, laidKinds := [.data, .pinned], laidTests := true, laidLooks := .later }
def OrderParsesUptoCardSaid : Prop := Claim7.holds Tryd.pinned (.plain (OpenSpec.upto orderParsesSpec)) orderParsesUptoCard

/-- THE SECOND FORM's CARD OF 'noonbelllaw09.OrderBack'. -/
def orderBackUptoCard : Claim7 := { stood := { row := orderBackUptoRow, standIns := [], harness := (true, "33d2c1576cc1c14b8dfd4d49f8cc3f43d8ae265273ed5b1757da01c243d229d3"), looks := true }, kinds := [], alts := [], laidByText := true, laidKinds := [.data, .pinned], laidTests := true, laidLooks := .later }
def OrderBackUptoCardSaid : Prop := Claim7.holds Tryd.pinned (.plain (OpenSpec.upto orderBackSpec)) orderBackUptoCard

/-- THE SECOND FORM's CARD OF 'noonbelllaw09.OrderWithin'. -/
def orderWithinUptoCard : Claim7 := { stood := { row := orderWithinUptoRow, standIns := [], harness := (true, "33d2c1576cc1c14b8dfd4d49f8cc3f43d8ae265273ed5b1757da01c243d229d3"), looks := true }, kinds := [], alts := [], laidByText := true, laidKinds := [.data, .pinned], laidTests := true, laidLooks := .later }
def OrderWithinUptoCardSaid : Prop := Claim7.holds Tryd.pinned (.plain (OpenSpec.upto orderWithinSpec)) orderWithinUptoCard
end Rows
end Go.Proofs.YthhikmlbpagknaaDoor
