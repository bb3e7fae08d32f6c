/-
  DERIVED. GIVEN WITH THE SEED: THE CARDS: each row of YtbdhanlenekdhaaGreatDoorRows.lean that lists a variable, with what it lists TIED to the program's text (the seventh form; the later family's looks); each row that meets fmt, with fmt's text TOLD by the authors' own Lean function (tested against real Go, not proved from fmt's source: count such statements apart). THE CARD IS WHAT COUNTS. Prove the row's statement (the work); the ties are given (YtbdhanlenekdhaaGreatDoorTie.lean); close each card by the builder's one call (the guide's Derived/Test/ToyasCard.lean, 'card_holds'). Laid BY PROGRAM, IN A SANDBOX (cutbox-door.mjs). By AI agents, Wed Nov 11 2026. No macro, syntax, notation, axiom, sorry.
-/
import Derived.Test.YtbdhanlenekdhaaGreatDoorRows
import GoSem.ClaimSeven
namespace Go.Proofs.YtbdhanlenekdhaaGreatDoor
namespace Rows

/-- THE TIED CARD OF 'noonbelllaw11.CertScales'. -/
def certScalesCard : Claim7 := { stood := { row := certScalesRow, standIns := [], harness := (true, "6d464fd4bf7bb3262383badb0b08bb2986c80e51b69cd7eb06b00525632701ed"), looks := false }, kinds := [], alts := [], laidByText := true, laidKinds := [.data, .data, .data, .data], laidTests := true, laidLooks := .later }
def CertScalesCardSaid : Prop := Claim7.holds Tryz.pinned (.plain (OpenSpec.ofChange certScalesSpec)) certScalesCard

/-- THE TIED CARD OF 'noonbelllaw11.CertSays'. -/
def certSaysCard : Claim7 := { stood := { row := certSaysRow, standIns := [], harness := (true, "6d464fd4bf7bb3262383badb0b08bb2986c80e51b69cd7eb06b00525632701ed"), looks := false }, kinds := [], alts := [], laidByText := true, laidKinds := [.data, .data, .data, .data], laidTests := true, laidLooks := .later }
def CertSaysCardSaid : Prop := Claim7.holds Tryz.pinned (.plain (OpenSpec.ofChange certSaysSpec)) certSaysCard

/-- THE TIED CARD OF 'noonbelllaw11.CertBounds'. -/
def certBoundsCard : Claim7 := { stood := { row := certBoundsRow, standIns := [], harness := (true, "6d464fd4bf7bb3262383badb0b08bb2986c80e51b69cd7eb06b00525632701ed"), looks := false }, kinds := [], alts := [], laidByText := true, laidKinds := [.data, .data, .data, .data], laidTests := true, laidLooks := .later }
def CertBoundsCardSaid : Prop := Claim7.holds Tryz.pinned (.plain (OpenSpec.ofChange certBoundsSpec)) certBoundsCard

/-- THE TIED CARD OF 'noonbelllaw11.CertRays'. -/
def certRaysCard : Claim7 := { stood := { row := certRaysRow, standIns := [], harness := (true, "6d464fd4bf7bb3262383badb0b08bb2986c80e51b69cd7eb06b00525632701ed"), looks := false }, kinds := [], alts := [], laidByText := true, laidKinds := [.data, .data, .data, .data], laidTests := true, laidLooks := .later }
def CertRaysCardSaid : Prop := Claim7.holds Tryz.pinned (.plain (OpenSpec.ofChange certRaysSpec)) certRaysCard

/-- THE TIED CARD OF 'noonbelllaw11.CertMiddle'. -/
def certMiddleCard : Claim7 := { stood := { row := certMiddleRow, standIns := [], harness := (true, "6d464fd4bf7bb3262383badb0b08bb2986c80e51b69cd7eb06b00525632701ed"), looks := false }, kinds := [], alts := [], laidByText := true, laidKinds := [.data, .data, .data, .data], laidTests := true, laidLooks := .later }
def CertMiddleCardSaid : Prop := Claim7.holds Tryz.pinned (.plain (OpenSpec.ofChange certMiddleSpec)) certMiddleCard

/-- THE SECOND FORM's CARD OF 'noonbelllaw11.CertScales'. -/
def certScalesUptoCard : Claim7 := { stood := { row := certScalesUptoRow, standIns := [], harness := (true, "6d464fd4bf7bb3262383badb0b08bb2986c80e51b69cd7eb06b00525632701ed"), looks := false }, kinds := [], alts := [], laidByText := true, laidKinds := [.data, .data, .data, .data], laidTests := true, laidLooks := .later }
def CertScalesUptoCardSaid : Prop := Claim7.holds Tryz.pinned (.plain (OpenSpec.upto certScalesSpec)) certScalesUptoCard

/-- THE SECOND FORM's CARD OF 'noonbelllaw11.CertSays'. -/
def certSaysUptoCard : Claim7 := { stood := { row := certSaysUptoRow, standIns := [], harness := (true, "6d464fd4bf7bb3262383badb0b08bb2986c80e51b69cd7eb06b00525632701ed"), looks := false }, kinds := [], alts := [], laidByText := true, laidKinds := [.data, .data, .data, .data], laidTests := true, laidLooks := .later }
def CertSaysUptoCardSaid : Prop := Claim7.holds Tryz.pinned (.plain (OpenSpec.upto certSaysSpec)) certSaysUptoCard

/-- THE SECOND FORM's CARD OF 'noonbelllaw11.CertBounds'. -/
def certBoundsUptoCard : Claim7 := { stood := { row := certBoundsUptoRow, standIns := [], harness := (true, "6d464fd4bf7bb3262383badb0b08bb2986c80e51b69cd7eb06b00525632701ed"), looks := false }, kinds := [], alts := [], laidByText := true, laidKinds := [.data, .data, .data, .data], laidTests := true, laidLooks := .later }
def CertBoundsUptoCardSaid : Prop := Claim7.holds Tryz.pinned (.plain (OpenSpec.upto certBoundsSpec)) certBoundsUptoCard

/-- THE SECOND FORM's CARD OF 'noonbelllaw11.CertRays'. -/
def certRaysUptoCard : Claim7 := { stood := { row := certRaysUptoRow, standIns := [], harness := (true, "6d464fd4bf7bb3262383badb0b08bb2986c80e51b69cd7eb06b00525632701ed"), looks := false }, kinds := [], alts := [], laidByText := true, laidKinds := [.data, .data, .data, .data], laidTests := true, laidLooks := .later }
def CertRaysUptoCardSaid : Prop := Claim7.holds Tryz.pinned (.plain (OpenSpec.upto certRaysSpec)) certRaysUptoCard

/-- THE SECOND FORM's CARD OF 'noonbelllaw11.CertMiddle'. -/
def certMiddleUptoCard : Claim7 := { stood := { row := certMiddleUptoRow, standIns := [], harness := (true, "6d464fd4bf7bb3262383badb0b08bb2986c80e51b69cd7eb06b00525632701ed"), looks := false }, kinds := [], alts := [], laidByText := true, laidKinds := [.data, .data, .data, .data], laidTests := true, laidLooks := .later }
def CertMiddleUptoCardSaid : Prop := Claim7.holds Tryz.pinned (.plain (OpenSpec.upto certMiddleSpec)) certMiddleUptoCard
end Rows
end Go.Proofs.YtbdhanlenekdhaaGreatDoor
