/-
  DERIVED. GIVEN WITH THE SEED: THE CARDS: each row of YtmlonfchbkmbcaaDoorRows.lean that lists a variable, with what it lists TIED to the program's text (the seventh form; the later family's looks); each row that meets fmt, with fmt's text TOLD by the authors' own Lean function (tested against real Go, not proved from fmt's source: count such statements apart). THE CARD IS WHAT COUNTS. Prove the row's statement (the work); the ties are given (YtmlonfchbkmbcaaDoorTie.lean); close each card by the builder's one call (the guide's Derived/Test/ToyasCard.lean, 'card_holds'). Laid BY PROGRAM, IN A SANDBOX (cutbox-door.mjs). By AI agents, Wed Nov 11 2026. No macro, syntax, notation, axiom, sorry.
-/
import Derived.Test.YtmlonfchbkmbcaaDoorRows
import GoSem.ClaimSeven
namespace Go.Proofs.YtmlonfchbkmbcaaDoor
namespace Rows

/-- THE TIED CARD OF 'droverlaw06.ActEncodes'. -/
def actEncodesCard : Claim7 := { stood := { row := actEncodesRow, standIns := [], harness := (true, "4e7a2bca6368e586d44b59b5d46038734c1f79f6bcc1f196ada209513c0579c7"), looks := false }, kinds := [], alts := [], laidByText := true, laidKinds := [.data, .data], laidTests := true, laidLooks := .later }
def ActEncodesCardSaid : Prop := Claim7.holds Tryd.pinned (.plain (OpenSpec.ofChange actEncodesSpec)) actEncodesCard

/-- THE TIED CARD OF 'droverlaw06.ActDecodes'. -/
def actDecodesCard : Claim7 := { stood := { row := actDecodesRow, standIns := [], harness := (true, "4e7a2bca6368e586d44b59b5d46038734c1f79f6bcc1f196ada209513c0579c7"), looks := false }, kinds := [], alts := [], laidByText := true, laidKinds := [.data, .data], laidTests := true, laidLooks := .later }
def ActDecodesCardSaid : Prop := Claim7.holds Tryd.pinned (.plain (OpenSpec.ofChange actDecodesSpec)) actDecodesCard

/-- THE TIED CARD OF 'droverlaw06.ActChanges'. -/
def actChangesCard : Claim7 := { stood := { row := actChangesRow, standIns := [], harness := (true, "4e7a2bca6368e586d44b59b5d46038734c1f79f6bcc1f196ada209513c0579c7"), looks := false }, kinds := [], alts := [], laidByText := true, laidKinds := [.data, .data], laidTests := true, laidLooks := .later }
def ActChangesCardSaid : Prop := Claim7.holds Tryd.pinned (.plain (OpenSpec.ofChange actChangesSpec)) actChangesCard

/-- THE TIED CARD OF 'droverlaw06.ActMerges'. -/
def actMergesCard : Claim7 := { stood := { row := actMergesRow, standIns := [], harness := (true, "4e7a2bca6368e586d44b59b5d46038734c1f79f6bcc1f196ada209513c0579c7"), looks := false }, kinds := [], alts := [], laidByText := true, laidKinds := [.data, .data], laidTests := true, laidLooks := .later }
def ActMergesCardSaid : Prop := Claim7.holds Tryd.pinned (.plain (OpenSpec.ofChange actMergesSpec)) actMergesCard

/-- THE TIED CARD OF 'droverlaw06.ActBack'. -/
def actBackCard : Claim7 := { stood := { row := actBackRow, standIns := [], harness := (true, "4e7a2bca6368e586d44b59b5d46038734c1f79f6bcc1f196ada209513c0579c7"), looks := false }, kinds := [], alts := [], laidByText := true, laidKinds := [.data, .data], laidTests := true, laidLooks := .later }
def ActBackCardSaid : Prop := Claim7.holds Tryd.pinned (.plain (OpenSpec.ofChange actBackSpec)) actBackCard

/-- THE TIED CARD OF 'droverlaw06.ActSets'. -/
def actSetsCard : Claim7 := { stood := { row := actSetsRow, standIns := [], harness := (true, "4e7a2bca6368e586d44b59b5d46038734c1f79f6bcc1f196ada209513c0579c7"), looks := false }, kinds := [], alts := [], laidByText := true, laidKinds := [.data, .data], laidTests := true, laidLooks := .later }
def ActSetsCardSaid : Prop := Claim7.holds Tryd.pinned (.plain (OpenSpec.ofChange actSetsSpec)) actSetsCard

/-- THE SECOND FORM's CARD OF 'droverlaw06.ActEncodes'. -/
def actEncodesUptoCard : Claim7 := { stood := { row := actEncodesUptoRow, standIns := [], harness := (true, "4e7a2bca6368e586d44b59b5d46038734c1f79f6bcc1f196ada209513c0579c7"), looks := false }, kinds := [], alts := [], laidByText := true, laidKinds := [.data, .data], laidTests := true, laidLooks := .later }
def ActEncodesUptoCardSaid : Prop := Claim7.holds Tryd.pinned (.plain (OpenSpec.upto actEncodesSpec)) actEncodesUptoCard

/-- THE SECOND FORM's CARD OF 'droverlaw06.ActDecodes'. -/
def actDecodesUptoCard : Claim7 := { stood := { row := actDecodesUptoRow, standIns := [], harness := (true, "4e7a2bca6368e586d44b59b5d46038734c1f79f6bcc1f196ada209513c0579c7"), looks := false }, kinds := [], alts := [], laidByText := true, laidKinds := [.data, .data], laidTests := true, laidLooks := .later }
def ActDecodesUptoCardSaid : Prop := Claim7.holds Tryd.pinned (.plain (OpenSpec.upto actDecodesSpec)) actDecodesUptoCard

/-- THE SECOND FORM's CARD OF 'droverlaw06.ActChanges'. -/
def actChangesUptoCard : Claim7 := { stood := { row := actChangesUptoRow, standIns := [], harness := (true, "4e7a2bca6368e586d44b59b5d46038734c1f79f6bcc1f196ada209513c0579c7"), looks := false }, kinds := [], alts := [], laidByText := true, laidKinds := [.data, .data], laidTests := true, laidLooks := .later }
def ActChangesUptoCardSaid : Prop := Claim7.holds Tryd.pinned (.plain (OpenSpec.upto actChangesSpec)) actChangesUptoCard

/-- THE SECOND FORM's CARD OF 'droverlaw06.ActMerges'. -/
def actMergesUptoCard : Claim7 := { stood := { row := actMergesUptoRow, standIns := [], harness := (true, "4e7a2bca6368e586d44b59b5d46038734c1f79f6bcc1f196ada209513c0579c7"), looks := false }, kinds := [], alts := [], laidByText := true, laidKinds := [.data, .data], laidTests := true, laidLooks := .later }
def ActMergesUptoCardSaid : Prop := Claim7.holds Tryd.pinned (.plain (OpenSpec.upto actMergesSpec)) actMergesUptoCard

/-- THE SECOND FORM's CARD OF 'droverlaw06.ActBack'. -/
def actBackUptoCard : Claim7 := { stood := { row := actBackUptoRow, standIns := [], harness := (true, "4e7a2bca6368e586d44b59b5d46038734c1f79f6bcc1f196ada209513c0579c7"), looks := false }, kinds := [], alts := [], laidByText := true, laidKinds := [.data, .data], laidTests := true, laidLooks := .later }
def ActBackUptoCardSaid : Prop := Claim7.holds Tryd.pinned (.plain (OpenSpec.upto actBackSpec)) actBackUptoCard

/-- THE SECOND FORM's CARD OF 'droverlaw06.ActSets'. -/
def actSetsUptoCard : Claim7 := { stood := { row := actSetsUptoRow, standIns := [], harness := (true, "4e7a2bca6368e586d44b59b5d46038734c1f79f6bcc1f196ada209513c0579c7"), looks := false }, kinds := [], alts := [], laidByText := true, laidKinds := [.data, .data], laidTests := true, laidLooks := .later }
def ActSetsUptoCardSaid : Prop := Claim7.holds Tryd.pinned (.plain (OpenSpec.upto actSetsSpec)) actSetsUptoCard
end Rows
end Go.Proofs.YtmlonfchbkmbcaaDoor
