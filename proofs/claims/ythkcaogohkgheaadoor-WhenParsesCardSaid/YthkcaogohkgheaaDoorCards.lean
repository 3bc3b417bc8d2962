/-
  DERIVED. GIVEN WITH THE SEED: THE CARDS: each row of YthkcaogohkgheaaDoorRows.lean that lists a variable, with what it lists TIED to the program's text (the seventh form; the later family's looks); each row that meets fmt, with fmt's text TOLD by the authors' own Lean function (tested against real Go, not proved from fmt's source: count such statements apart). THE CARD IS WHAT COUNTS. Prove the row's statement (the work); the ties are given (YthkcaogohkgheaaDoorTie.lean); close each card by the builder's one call (the guide's Derived/Test/ToyasCard.lean, 'card_holds'). Laid BY PROGRAM, IN A SANDBOX (cutbox-door.mjs). By AI agents, Wed Nov 11 2026. No macro, syntax, notation, axiom, sorry.
-/
import Derived.Test.YthkcaogohkgheaaDoorRows
import GoSem.ClaimSeven
namespace Go.Proofs.YthkcaogohkgheaaDoor
namespace Rows

/-- THE TIED CARD OF 'propylonlaw16.WhenTexts'. -/
def whenTextsCard : Claim7 := { stood := { row := whenTextsRow, standIns := [], harness := (true, "df8d5db819d3cfef1801673f1310661543a23162dd027d62af04b539e76ff575"), looks := false }, kinds := [], alts := [], laidByText := true, laidKinds := [.data, .data, .data], laidTests := true, laidLooks := .later }
def WhenTextsCardSaid : Prop := Claim7.holds Tryd.pinned (.plain (OpenSpec.ofChange whenTextsSpec)) whenTextsCard

/-- THE TIED CARD OF 'propylonlaw16.WhenParses'. -/
def whenParsesCard : Claim7 := { stood := { row := whenParsesRow, standIns := [], harness := (true, "df8d5db819d3cfef1801673f1310661543a23162dd027d62af04b539e76ff575"), looks := false }, kinds := [], alts := [], laidByText := true, laidKinds := [.data, .data, .data], laidTests := true, laidLooks := .later }
def WhenParsesCardSaid : Prop := Claim7.holds Tryd.pinned (.plain (OpenSpec.ofChange whenParsesSpec)) whenParsesCard

/-- THE TIED CARD OF 'propylonlaw16.WhenBack'. -/
def whenBackCard : Claim7 := { stood := { row := whenBackRow, standIns := [], harness := (true, "df8d5db819d3cfef1801673f1310661543a23162dd027d62af04b539e76ff575"), looks := false }, kinds := [], alts := [], laidByText := true, laidKinds := [.data, .data, .data], laidTests := true, laidLooks := .later }
def WhenBackCardSaid : Prop := Claim7.holds Tryd.pinned (.plain (OpenSpec.ofChange whenBackSpec)) whenBackCard

/-- THE TIED CARD OF 'propylonlaw16.WhenRises'. -/
def whenRisesCard : Claim7 := { stood := { row := whenRisesRow, standIns := [], harness := (true, "df8d5db819d3cfef1801673f1310661543a23162dd027d62af04b539e76ff575"), looks := false }, kinds := [], alts := [], laidByText := true, laidKinds := [.data, .data, .data], laidTests := true, laidLooks := .later }
def WhenRisesCardSaid : Prop := Claim7.holds Tryd.pinned (.plain (OpenSpec.ofChange whenRisesSpec)) whenRisesCard

/-- THE SECOND FORM's CARD OF 'propylonlaw16.WhenTexts'. -/
def whenTextsUptoCard : Claim7 := { stood := { row := whenTextsUptoRow, standIns := [], harness := (true, "df8d5db819d3cfef1801673f1310661543a23162dd027d62af04b539e76ff575"), looks := false }, kinds := [], alts := [], laidByText := true, laidKinds := [.data, .data, .data], laidTests := true, laidLooks := .later }
def WhenTextsUptoCardSaid : Prop := Claim7.holds Tryd.pinned (.plain (OpenSpec.upto whenTextsSpec)) whenTextsUptoCard

/-- THE SECOND FORM's CARD OF 'propylonlaw16.WhenParses'. -/
def whenParsesUptoCard : Claim7 := { stood := { row := whenParsesUptoRow, standIns := [], harness := (true, "df8d5db819d3cfef1801673f1310661543a23162dd027d62af04b539e76ff575"), looks := false }, kinds := [], alts := [], laidByText := true, laidKinds := [.data, .data, .data], laidTests := true, laidLooks := .later }
def WhenParsesUptoCardSaid : Prop := Claim7.holds Tryd.pinned (.plain (OpenSpec.upto whenParsesSpec)) whenParsesUptoCard

/-- THE SECOND FORM's CARD OF 'propylonlaw16.WhenBack'. -/
def whenBackUptoCard : Claim7 := { stood := { row := whenBackUptoRow, standIns := [], harness := (true, "df8d5db819d3cfef1801673f1310661543a23162dd027d62af04b539e76ff575"), looks := false }, kinds := [], alts := [], laidByText := true, laidKinds := [.data, .data, .data], laidTests := true, laidLooks := .later }
def WhenBackUptoCardSaid : Prop := Claim7.holds Tryd.pinned (.plain (OpenSpec.upto whenBackSpec)) whenBackUptoCard

/-- THE SECOND FORM's CARD OF 'propylonlaw16.WhenRises'. -/
def whenRisesUptoCard : Claim7 := { stood := { row := whenRisesUptoRow, standIns := [], harness := (true, "df8d5db819d3cfef1801673f1310661543a23162dd027d62af04b539e76ff575"), looks := false }, kinds := [], alts := [], laidByText := true, laidKinds := [.data, .data, .data], laidTests := true, laidLooks := .later }
def WhenRisesUptoCardSaid : Prop := Claim7.holds Tryd.pinned (.plain (OpenSpec.upto whenRisesSpec)) whenRisesUptoCard
end Rows
end Go.Proofs.YthkcaogohkgheaaDoor
