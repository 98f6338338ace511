/-
  DERIVED. GIVEN WITH THE SEED: THE CARDS: each row of YtjmnnjhaiecglaaDoorRows.lean that lists a variable, with what it lists TIED to the program's text (the seventh form; the later family's looks); each row that meets fmt, with fmt's text TOLD by the authors' own Lean function (tested against real Go, not proved from fmt's source: count such statements apart). THE CARD IS WHAT COUNTS. Prove the row's statement (the work); the ties are given (YtjmnnjhaiecglaaDoorTie.lean); close each card by the builder's one call (the guide's Derived/Test/ToyasCard.lean, 'card_holds'). Laid BY PROGRAM, IN A SANDBOX (cutbox-door.mjs). By AI agents, Wed Nov 11 2026. No macro, syntax, notation, axiom, sorry.
-/
import Derived.Test.YtjmnnjhaiecglaaDoorRows
import GoSem.ClaimSeven
namespace Go.Proofs.YtjmnnjhaiecglaaDoor
namespace Rows

/-- THE TIED CARD OF 'droverlaw05.MatchRight'. -/
def matchRightCard : Claim7 := { stood := { row := matchRightRow, standIns := [], harness := (true, "7a6448273da89fa117de4e34cebc6fdba17275d17ad4fdf8ae1f5cf78ef20aa8"), looks := false }, kinds := [], alts := [], laidByText := true, laidKinds := [.data], laidTests := true, laidLooks := .later }
def MatchRightCardSaid : Prop := Claim7.holds Tryd.pinned (.plain (OpenSpec.ofChange matchRightSpec)) matchRightCard

/-- THE TIED CARD OF 'droverlaw05.MatchTakes'. -/
def matchTakesCard : Claim7 := { stood := { row := matchTakesRow, standIns := [], harness := (true, "7a6448273da89fa117de4e34cebc6fdba17275d17ad4fdf8ae1f5cf78ef20aa8"), looks := false }, kinds := [], alts := [], laidByText := true, laidKinds := [.data], laidTests := true, laidLooks := .later }
def MatchTakesCardSaid : Prop := Claim7.holds Tryd.pinned (.plain (OpenSpec.ofChange matchTakesSpec)) matchTakesCard

/-- THE TIED CARD OF 'droverlaw05.MatchPairs'. -/
def matchPairsCard : Claim7 := { stood := { row := matchPairsRow, standIns := [], harness := (true, "7a6448273da89fa117de4e34cebc6fdba17275d17ad4fdf8ae1f5cf78ef20aa8"), looks := false }, kinds := [], alts := [], laidByText := true, laidKinds := [.data], laidTests := true, laidLooks := .later }
def MatchPairsCardSaid : Prop := Claim7.holds Tryd.pinned (.plain (OpenSpec.ofChange matchPairsSpec)) matchPairsCard

/-- THE TIED CARD OF 'droverlaw05.MatchEncodes'. -/
def matchEncodesCard : Claim7 := { stood := { row := matchEncodesRow, standIns := [], harness := (true, "7a6448273da89fa117de4e34cebc6fdba17275d17ad4fdf8ae1f5cf78ef20aa8"), looks := false }, kinds := [], alts := [], laidByText := true, laidKinds := [.data], laidTests := true, laidLooks := .later }
def MatchEncodesCardSaid : Prop := Claim7.holds Tryd.pinned (.plain (OpenSpec.ofChange matchEncodesSpec)) matchEncodesCard

/-- THE TIED CARD OF 'droverlaw05.MatchDecodes'. -/
def matchDecodesCard : Claim7 := { stood := { row := matchDecodesRow, standIns := [], harness := (true, "7a6448273da89fa117de4e34cebc6fdba17275d17ad4fdf8ae1f5cf78ef20aa8"), looks := false }, kinds := [], alts := [], laidByText := true, laidKinds := [.data], laidTests := true, laidLooks := .later }
def MatchDecodesCardSaid : Prop := Claim7.holds Tryd.pinned (.plain (OpenSpec.ofChange matchDecodesSpec)) matchDecodesCard

/-- THE TIED CARD OF 'droverlaw05.MatchBack'. -/
def matchBackCard : Claim7 := { stood := { row := matchBackRow, standIns := [], harness := (true, "7a6448273da89fa117de4e34cebc6fdba17275d17ad4fdf8ae1f5cf78ef20aa8"), looks := false }, kinds := [], alts := [], laidByText := true, laidKinds := [.data], laidTests := true, laidLooks := .later }
def MatchBackCardSaid : Prop := Claim7.holds Tryd.pinned (.plain (OpenSpec.ofChange matchBackSpec)) matchBackCard

/-- THE SECOND FORM's CARD OF 'droverlaw05.MatchRight'. -/
def matchRightUptoCard : Claim7 := { stood := { row := matchRightUptoRow, standIns := [], harness := (true, "7a6448273da89fa117de4e34cebc6fdba17275d17ad4fdf8ae1f5cf78ef20aa8"), looks := false }, kinds := [], alts := [], laidByText := true, laidKinds := [.data], laidTests := true, laidLooks := .later }
def MatchRightUptoCardSaid : Prop := Claim7.holds Tryd.pinned (.plain (OpenSpec.upto matchRightSpec)) matchRightUptoCard

/-- THE SECOND FORM's CARD OF 'droverlaw05.MatchTakes'. -/
def matchTakesUptoCard : Claim7 := { stood := { row := matchTakesUptoRow, standIns := [], harness := (true, "7a6448273da89fa117de4e34cebc6fdba17275d17ad4fdf8ae1f5cf78ef20aa8"), looks := false }, kinds := [], alts := [], laidByText := true, laidKinds := [.data], laidTests := true, laidLooks := .later }
def MatchTakesUptoCardSaid : Prop := Claim7.holds Tryd.pinned (.plain (OpenSpec.upto matchTakesSpec)) matchTakesUptoCard

/-- THE SECOND FORM's CARD OF 'droverlaw05.MatchPairs'. -/
def matchPairsUptoCard : Claim7 := { stood := { row := matchPairsUptoRow, standIns := [], harness := (true, "7a6448273da89fa117de4e34cebc6fdba17275d17ad4fdf8ae1f5cf78ef20aa8"), looks := false }, kinds := [], alts := [], laidByText := true, laidKinds := [.data], laidTests := true, laidLooks := .later }
def MatchPairsUptoCardSaid : Prop := Claim7.holds Tryd.pinned (.plain (OpenSpec.upto matchPairsSpec)) matchPairsUptoCard

/-- THE SECOND FORM's CARD OF 'droverlaw05.MatchEncodes'. -/
def matchEncodesUptoCard : Claim7 := { stood := { row := matchEncodesUptoRow, standIns := [], harness := (true, "7a6448273da89fa117de4e34cebc6fdba17275d17ad4fdf8ae1f5cf78ef20aa8"), looks := false }, kinds := [], alts := [], laidByText := true, laidKinds := [.data], laidTests := true, laidLooks := .later }
def MatchEncodesUptoCardSaid : Prop := Claim7.holds Tryd.pinned (.plain (OpenSpec.upto matchEncodesSpec)) matchEncodesUptoCard

/-- THE SECOND FORM's CARD OF 'droverlaw05.MatchDecodes'. -/
def matchDecodesUptoCard : Claim7 := { stood := { row := matchDecodesUptoRow, standIns := [], harness := (true, "7a6448273da89fa117de4e34cebc6fdba17275d17ad4fdf8ae1f5cf78ef20aa8"), looks := false }, kinds := [], alts := [], laidByText := true, laidKinds := [.data], laidTests := true, laidLooks := .later }
def MatchDecodesUptoCardSaid : Prop := Claim7.holds Tryd.pinned (.plain (OpenSpec.upto matchDecodesSpec)) matchDecodesUptoCard

/-- THE SECOND FORM's CARD OF 'droverlaw05.MatchBack'. -/
def matchBackUptoCard : Claim7 := { stood := { row := matchBackUptoRow, standIns := [], harness := (true, "7a6448273da89fa117de4e34cebc6fdba17275d17ad4fdf8ae1f5cf78ef20aa8"), looks := false }, kinds := [], alts := [], laidByText := true, laidKinds := [.data], laidTests := true, laidLooks := .later }
def MatchBackUptoCardSaid : Prop := Claim7.holds Tryd.pinned (.plain (OpenSpec.upto matchBackSpec)) matchBackUptoCard
end Rows
end Go.Proofs.YtjmnnjhaiecglaaDoor
