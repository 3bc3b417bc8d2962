/-
  DERIVED. GIVEN WITH THE SEED: THE CARDS: each row of YtkkoefiennccoaaGreatDoorRows.lean that lists a variable, with what it lists TIED to the program's text (the seventh form; the later family's looks); each row that meets fmt, with fmt's text TOLD by the authors' own Lean function (tested against real Go, not proved from fmt's source: count such statements apart). THE CARD IS WHAT COUNTS. Prove the row's statement (the work); the ties are given (YtkkoefiennccoaaGreatDoorTie.lean); close each card by the builder's one call (the guide's Derived/Test/ToyasCard.lean, 'card_holds'). Laid BY PROGRAM, IN A SANDBOX (cutbox-door.mjs). By AI agents, Wed Nov 11 2026. No macro, syntax, notation, axiom, sorry.
-/
import Derived.Test.YtkkoefiennccoaaGreatDoorRows
import GoSem.ClaimSeven
namespace Go.Proofs.YtkkoefiennccoaaGreatDoor
namespace Rows

/-- THE TIED CARD OF 'propylonlaw15.DecitTexts'. -/
def decitTextsCard : Claim7 := { stood := { row := decitTextsRow, standIns := [], harness := (true, "b44a0ceef9fec7b278fffe90d31f0062221db7fdc29999f7bb521c219c4bd8a7"), looks := false }, kinds := [], alts := [], laidByText := true, laidKinds := [.data, .data, .data, .data, .pinned], laidTests := true, laidLooks := .later }
def DecitTextsCardSaid : Prop := Claim7.holds Tryz.pinned (.plain (OpenSpec.ofChange decitTextsSpec)) decitTextsCard

/-- THE TIED CARD OF 'propylonlaw15.DecitParses'. -/
def decitParsesCard : Claim7 := { stood := { row := decitParsesRow, standIns := [], harness := (true, "b44a0ceef9fec7b278fffe90d31f0062221db7fdc29999f7bb521c219c4bd8a7"), looks := false }, kinds := [], alts := [], laidByText := true, laidKinds := [.data, .data, .data, .data, .pinned], laidTests := true, laidLooks := .later }
def DecitParsesCardSaid : Prop := Claim7.holds Tryz.pinned (.plain (OpenSpec.ofChange decitParsesSpec)) decitParsesCard

/-- THE TIED CARD OF 'propylonlaw15.DecitJust'. -/
def decitJustCard : Claim7 := { stood := { row := decitJustRow, standIns := [], harness := (true, "b44a0ceef9fec7b278fffe90d31f0062221db7fdc29999f7bb521c219c4bd8a7"), looks := false }, kinds := [], alts := [], laidByText := true, laidKinds := [.data, .data, .data, .data, .pinned], laidTests := true, laidLooks := .later }
def DecitJustCardSaid : Prop := Claim7.holds Tryz.pinned (.plain (OpenSpec.ofChange decitJustSpec)) decitJustCard

/-- THE SECOND FORM's CARD OF 'propylonlaw15.DecitTexts'. -/
def decitTextsUptoCard : Claim7 := { stood := { row := decitTextsUptoRow, standIns := [], harness := (true, "b44a0ceef9fec7b278fffe90d31f0062221db7fdc29999f7bb521c219c4bd8a7"), looks := false }, kinds := [], alts := [], laidByText := true, laidKinds := [.data, .data, .data, .data, .pinned], laidTests := true, laidLooks := .later }
def DecitTextsUptoCardSaid : Prop := Claim7.holds Tryz.pinned (.plain (OpenSpec.upto decitTextsSpec)) decitTextsUptoCard

/-- THE SECOND FORM's CARD OF 'propylonlaw15.DecitParses'. -/
def decitParsesUptoCard : Claim7 := { stood := { row := decitParsesUptoRow, standIns := [], harness := (true, "b44a0ceef9fec7b278fffe90d31f0062221db7fdc29999f7bb521c219c4bd8a7"), looks := false }, kinds := [], alts := [], laidByText := true, laidKinds := [.data, .data, .data, .data, .pinned], laidTests := true, laidLooks := .later }
def DecitParsesUptoCardSaid : Prop := Claim7.holds Tryz.pinned (.plain (OpenSpec.upto decitParsesSpec)) decitParsesUptoCard

/-- THE SECOND FORM's CARD OF 'propylonlaw15.DecitJust'. -/
def decitJustUptoCard : Claim7 := { stood := { row := decitJustUptoRow, standIns := [], harness := (true, "b44a0ceef9fec7b278fffe90d31f0062221db7fdc29999f7bb521c219c4bd8a7"), looks := false }, kinds := [], alts := [], laidByText := true, laidKinds := [.data, .data, .data, .data, .pinned], laidTests := true, laidLooks := .later }
def DecitJustUptoCardSaid : Prop := Claim7.holds Tryz.pinned (.plain (OpenSpec.upto decitJustSpec)) decitJustUptoCard
end Rows
end Go.Proofs.YtkkoefiennccoaaGreatDoor
