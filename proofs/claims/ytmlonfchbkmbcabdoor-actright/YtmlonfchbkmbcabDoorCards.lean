/-
  DERIVED. GIVEN WITH THE SEED: THE CARDS: each row of YtmlonfchbkmbcabDoorRows.lean that lists a variable, with what it lists TIED to the program's text (the seventh form; the later family's looks); each row that meets fmt, with fmt's text TOLD by the authors' own Lean function (tested against real Go, not proved from fmt's source: count such statements apart). THE CARD IS WHAT COUNTS. Prove the row's statement (the work); the ties are given (YtmlonfchbkmbcabDoorTie.lean); close each card by the builder's one call (the guide's Derived/Test/ToyasCard.lean, 'card_holds'). Laid BY PROGRAM, IN A SANDBOX (cutbox-door.mjs). By AI agents, Wed Nov 11 2026. No macro, syntax, notation, axiom, sorry.
-/
import Derived.Test.YtmlonfchbkmbcabDoorRows
import GoSem.ClaimSeven
namespace Go.Proofs.YtmlonfchbkmbcabDoor
namespace Rows

/-- THE TIED CARD OF 'droverlaw06.ActRight'. -/
def actRightCard : Claim7 := { stood := { row := actRightRow, standIns := [], harness := (true, "3718cc611ae6cf6f3edac0045f454eedb6d334b5a4452f2180bf98c971f5caa2"), looks := false }, kinds := [], alts := [], laidByText := true, laidKinds := [.data, .data], laidTests := true, laidLooks := .later }
def ActRightCardSaid : Prop := Claim7.holds Tryd.pinned (.plain (OpenSpec.ofChange actRightSpec)) actRightCard

/-- THE TIED CARD OF 'droverlaw06.ActOne'. -/
def actOneCard : Claim7 := { stood := { row := actOneRow, standIns := [], harness := (true, "3718cc611ae6cf6f3edac0045f454eedb6d334b5a4452f2180bf98c971f5caa2"), looks := false }, kinds := [], alts := [], laidByText := true, laidKinds := [.data, .data], laidTests := true, laidLooks := .later }
def ActOneCardSaid : Prop := Claim7.holds Tryd.pinned (.plain (OpenSpec.ofChange actOneSpec)) actOneCard

/-- THE SECOND FORM's CARD OF 'droverlaw06.ActRight'. -/
def actRightUptoCard : Claim7 := { stood := { row := actRightUptoRow, standIns := [], harness := (true, "3718cc611ae6cf6f3edac0045f454eedb6d334b5a4452f2180bf98c971f5caa2"), looks := false }, kinds := [], alts := [], laidByText := true, laidKinds := [.data, .data], laidTests := true, laidLooks := .later }
def ActRightUptoCardSaid : Prop := Claim7.holds Tryd.pinned (.plain (OpenSpec.upto actRightSpec)) actRightUptoCard

/-- THE SECOND FORM's CARD OF 'droverlaw06.ActOne'. -/
def actOneUptoCard : Claim7 := { stood := { row := actOneUptoRow, standIns := [], harness := (true, "3718cc611ae6cf6f3edac0045f454eedb6d334b5a4452f2180bf98c971f5caa2"), looks := false }, kinds := [], alts := [], laidByText := true, laidKinds := [.data, .data], laidTests := true, laidLooks := .later }
def ActOneUptoCardSaid : Prop := Claim7.holds Tryd.pinned (.plain (OpenSpec.upto actOneSpec)) actOneUptoCard
end Rows
end Go.Proofs.YtmlonfchbkmbcabDoor
