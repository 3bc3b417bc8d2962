/-
  DERIVED. GIVEN WITH THE SEED: THE CARDS: each row of YtkkoefiennccoaaDoorRows.lean that lists a variable, with what it lists TIED to the program's text (the seventh form; the later family's looks); each row that meets fmt, with fmt's text TOLD by the authors' own Lean function (tested against real Go, not proved from fmt's source: count such statements apart). THE CARD IS WHAT COUNTS. Prove the row's statement (the work); the ties are given (YtkkoefiennccoaaDoorTie.lean); close each card by the builder's one call (the guide's Derived/Test/ToyasCard.lean, 'card_holds'). Laid BY PROGRAM, IN A SANDBOX (cutbox-door.mjs). By AI agents, Wed Nov 11 2026. No macro, syntax, notation, axiom, sorry.
-/
import Derived.Test.YtkkoefiennccoaaDoorRows
import GoSem.ClaimSeven
namespace Go.Proofs.YtkkoefiennccoaaDoor
namespace Rows

/-- THE TIED CARD OF 'propylonlaw15.DecitBack'. -/
def decitBackCard : Claim7 := { stood := { row := decitBackRow, standIns := [], harness := (true, "4e7de3e3d36ee0bf0978168f554741a4d6d16dce028c1bc4cb01d5733f3e67f4"), looks := false }, kinds := [], alts := [], laidByText := true, laidKinds := [.data, .data, .data, .data, .pinned], laidTests := true, laidLooks := .later }
def DecitBackCardSaid : Prop := Claim7.holds Tryd.pinned (.plain (OpenSpec.ofChange decitBackSpec)) decitBackCard

/-- THE TIED CARD OF 'propylonlaw15.DecitSigns'. -/
def decitSignsCard : Claim7 := { stood := { row := decitSignsRow, standIns := [], harness := (true, "4e7de3e3d36ee0bf0978168f554741a4d6d16dce028c1bc4cb01d5733f3e67f4"), looks := false }, kinds := [], alts := [], laidByText := true, laidKinds := [.data, .data, .data, .data, .pinned], laidTests := true, laidLooks := .later }
def DecitSignsCardSaid : Prop := Claim7.holds Tryd.pinned (.plain (OpenSpec.ofChange decitSignsSpec)) decitSignsCard

/-- THE SECOND FORM's CARD OF 'propylonlaw15.DecitBack'. -/
def decitBackUptoCard : Claim7 := { stood := { row := decitBackUptoRow, standIns := [], harness := (true, "4e7de3e3d36ee0bf0978168f554741a4d6d16dce028c1bc4cb01d5733f3e67f4"), looks := false }, kinds := [], alts := [], laidByText := true, laidKinds := [.data, .data, .data, .data, .pinned], laidTests := true, laidLooks := .later }
def DecitBackUptoCardSaid : Prop := Claim7.holds Tryd.pinned (.plain (OpenSpec.upto decitBackSpec)) decitBackUptoCard

/-- THE SECOND FORM's CARD OF 'propylonlaw15.DecitSigns'. -/
def decitSignsUptoCard : Claim7 := { stood := { row := decitSignsUptoRow, standIns := [], harness := (true, "4e7de3e3d36ee0bf0978168f554741a4d6d16dce028c1bc4cb01d5733f3e67f4"), looks := false }, kinds := [], alts := [], laidByText := true, laidKinds := [.data, .data, .data, .data, .pinned], laidTests := true, laidLooks := .later }
def DecitSignsUptoCardSaid : Prop := Claim7.holds Tryd.pinned (.plain (OpenSpec.upto decitSignsSpec)) decitSignsUptoCard
end Rows
end Go.Proofs.YtkkoefiennccoaaDoor
