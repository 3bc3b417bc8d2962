/-
  DERIVED. GIVEN WITH THE SEED: THE CARDS: each row of YtbdkkkcpoaeojaaDoorRows.lean that lists a variable, with what it lists TIED to the program's text (the seventh form; the later family's looks); each row that meets fmt, with fmt's text TOLD by the authors' own Lean function (tested against real Go, not proved from fmt's source: count such statements apart). THE CARD IS WHAT COUNTS. Prove the row's statement (the work); the ties are given (YtbdkkkcpoaeojaaDoorTie.lean); close each card by the builder's one call (the guide's Derived/Test/ToyasCard.lean, 'card_holds'). Laid BY PROGRAM, IN A SANDBOX (cutbox-door.mjs). By AI agents, Wed Nov 11 2026. No macro, syntax, notation, axiom, sorry.
-/
import Derived.Test.YtbdkkkcpoaeojaaDoorRows
import GoSem.ClaimSeven
namespace Go.Proofs.YtbdkkkcpoaeojaaDoor
namespace Rows

/-- THE TIED CARD OF 'propylonlaw10.WholeTexts'. -/
def wholeTextsCard : Claim7 := { stood := { row := wholeTextsRow, standIns := [], harness := (true, "d37e5169e064351d49b6705ce42739235e6c100dd8585556f5917e59090fe197"), looks := true }, kinds := [], alts := [], laidByText := true, laidKinds := [.data, .data, .data, .sentinel, .sentinel], laidTests := true, laidLooks := .later }
def WholeTextsCardSaid : Prop := Claim7.holds Tryd.pinned (.plain (OpenSpec.ofChange wholeTextsSpec)) wholeTextsCard

/-- THE TIED CARD OF 'propylonlaw10.WholeLexes'. -/
def wholeLexesCard : Claim7 := { stood := { row := wholeLexesRow, standIns := [], harness := (true, "d37e5169e064351d49b6705ce42739235e6c100dd8585556f5917e59090fe197"), looks := true }, kinds := [], alts := [], laidByText := true, laidKinds := [.data, .data, .data, .sentinel, .sentinel], laidTests := true, laidLooks := .later }
def WholeLexesCardSaid : Prop := Claim7.holds Tryd.pinned (.plain (OpenSpec.ofChange wholeLexesSpec)) wholeLexesCard

/-- THE TIED CARD OF 'propylonlaw10.WholeIs'. -/
def wholeIsCard : Claim7 := { stood := { row := wholeIsRow, standIns := [], harness := (true, "d37e5169e064351d49b6705ce42739235e6c100dd8585556f5917e59090fe197"), looks := true }, kinds := [], alts := [], laidByText := true, laidKinds := [.data, .data, .data, .sentinel, .sentinel], laidTests := true, laidLooks := .later }
def WholeIsCardSaid : Prop := Claim7.holds Tryd.pinned (.plain (OpenSpec.ofChange wholeIsSpec)) wholeIsCard

/-- THE TIED CARD OF 'propylonlaw10.WholeGoes'. -/
def wholeGoesCard : Claim7 := { stood := { row := wholeGoesRow, standIns := [], harness := (true, "d37e5169e064351d49b6705ce42739235e6c100dd8585556f5917e59090fe197"), looks := true }, kinds := [], alts := [], laidByText := true, laidKinds := [.data, .data, .data, .sentinel, .sentinel], laidTests := true, laidLooks := .later }
def WholeGoesCardSaid : Prop := Claim7.holds Tryd.pinned (.plain (OpenSpec.ofChange wholeGoesSpec)) wholeGoesCard

/-- THE SECOND FORM's CARD OF 'propylonlaw10.WholeTexts'. -/
def wholeTextsUptoCard : Claim7 := { stood := { row := wholeTextsUptoRow, standIns := [], harness := (true, "d37e5169e064351d49b6705ce42739235e6c100dd8585556f5917e59090fe197"), looks := true }, kinds := [], alts := [], laidByText := true, laidKinds := [.data, .data, .data, .sentinel, .sentinel], laidTests := true, laidLooks := .later }
def WholeTextsUptoCardSaid : Prop := Claim7.holds Tryd.pinned (.plain (OpenSpec.upto wholeTextsSpec)) wholeTextsUptoCard

/-- THE SECOND FORM's CARD OF 'propylonlaw10.WholeLexes'. -/
def wholeLexesUptoCard : Claim7 := { stood := { row := wholeLexesUptoRow, standIns := [], harness := (true, "d37e5169e064351d49b6705ce42739235e6c100dd8585556f5917e59090fe197"), looks := true }, kinds := [], alts := [], laidByText := true, laidKinds := [.data, .data, .data, .sentinel, .sentinel], laidTests := true, laidLooks := .later }
def WholeLexesUptoCardSaid : Prop := Claim7.holds Tryd.pinned (.plain (OpenSpec.upto wholeLexesSpec)) wholeLexesUptoCard

/-- THE SECOND FORM's CARD OF 'propylonlaw10.WholeIs'. -/
def wholeIsUptoCard : Claim7 := { stood := { row := wholeIsUptoRow, standIns := [], harness := (true, "d37e5169e064351d49b6705ce42739235e6c100dd8585556f5917e59090fe197"), looks := true }, kinds := [], alts := [], laidByText := true, laidKinds := [.data, .data, .data, .sentinel, .sentinel], laidTests := true, laidLooks := .later }
def WholeIsUptoCardSaid : Prop := Claim7.holds Tryd.pinned (.plain (OpenSpec.upto wholeIsSpec)) wholeIsUptoCard

/-- THE SECOND FORM's CARD OF 'propylonlaw10.WholeGoes'. -/
def wholeGoesUptoCard : Claim7 := { stood := { row := wholeGoesUptoRow, standIns := [], harness := (true, "d37e5169e064351d49b6705ce42739235e6c100dd8585556f5917e59090fe197"), looks := true }, kinds := [], alts := [], laidByText := true, laidKinds := [.data, .data, .data, .sentinel, .sentinel], laidTests := true, laidLooks := .later }
def WholeGoesUptoCardSaid : Prop := Claim7.holds Tryd.pinned (.plain (OpenSpec.upto wholeGoesSpec)) wholeGoesUptoCard
end Rows
end Go.Proofs.YtbdkkkcpoaeojaaDoor
