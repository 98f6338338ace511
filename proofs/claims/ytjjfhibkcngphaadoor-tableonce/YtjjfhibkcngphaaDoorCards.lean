/-
  DERIVED. GIVEN WITH THE SEED: THE CARDS: each row of YtjjfhibkcngphaaDoorRows.lean that lists a variable, with what it lists TIED to the program's text (the seventh form; the later family's looks); each row that meets fmt, with fmt's text TOLD by the authors' own Lean function (tested against real Go, not proved from fmt's source: count such statements apart). THE CARD IS WHAT COUNTS. Prove the row's statement (the work); the ties are given (YtjjfhibkcngphaaDoorTie.lean); close each card by the builder's one call (the guide's Derived/Test/ToyasCard.lean, 'card_holds'). Laid BY PROGRAM, IN A SANDBOX (cutbox-door.mjs). By AI agents, Wed Nov 11 2026. No macro, syntax, notation, axiom, sorry.
-/
import Derived.Test.YtjjfhibkcngphaaDoorRows
import GoSem.ClaimSeven
namespace Go.Proofs.YtjjfhibkcngphaaDoor
namespace Rows

/-- THE TIED CARD OF 'droverlaw11.TableLooks'. -/
def tableLooksCard : Claim7 := { stood := { row := tableLooksRow, standIns := [], harness := (true, "f13f1dc1bf588dfde507cd4fe444f92acf04e77adba79bf0ca871e7d6bf691d3"), looks := false }, kinds := [], alts := [], laidByText := true, laidKinds := [.data, .data], laidTests := true, laidLooks := .later }
def TableLooksCardSaid : Prop := Claim7.holds Tryd.pinned (.plain (OpenSpec.ofChange tableLooksSpec)) tableLooksCard

/-- THE TIED CARD OF 'droverlaw11.TableOnce'. -/
def tableOnceCard : Claim7 := { stood := { row := tableOnceRow, standIns := [], harness := (true, "f13f1dc1bf588dfde507cd4fe444f92acf04e77adba79bf0ca871e7d6bf691d3"), looks := false }, kinds := [], alts := [], laidByText := true, laidKinds := [.data, .data], laidTests := true, laidLooks := .later }
def TableOnceCardSaid : Prop := Claim7.holds Tryd.pinned (.plain (OpenSpec.ofChange tableOnceSpec)) tableOnceCard

/-- THE TIED CARD OF 'droverlaw11.TableClash'. -/
def tableClashCard : Claim7 := { stood := { row := tableClashRow, standIns := [], harness := (true, "f13f1dc1bf588dfde507cd4fe444f92acf04e77adba79bf0ca871e7d6bf691d3"), looks := false }, kinds := [], alts := [], laidByText := true, laidKinds := [.data, .data], laidTests := true, laidLooks := .later }
def TableClashCardSaid : Prop := Claim7.holds Tryd.pinned (.plain (OpenSpec.ofChange tableClashSpec)) tableClashCard

/-- THE TIED CARD OF 'droverlaw11.TableNil'. -/
def tableNilCard : Claim7 := { stood := { row := tableNilRow, standIns := [], harness := (true, "f13f1dc1bf588dfde507cd4fe444f92acf04e77adba79bf0ca871e7d6bf691d3"), looks := false }, kinds := [], alts := [], laidByText := true, laidKinds := [.data, .data], laidTests := true, laidLooks := .later }
def TableNilCardSaid : Prop := Claim7.holds Tryd.pinned (.plain (OpenSpec.ofChange tableNilSpec)) tableNilCard

/-- THE SECOND FORM's CARD OF 'droverlaw11.TableLooks'. -/
def tableLooksUptoCard : Claim7 := { stood := { row := tableLooksUptoRow, standIns := [], harness := (true, "f13f1dc1bf588dfde507cd4fe444f92acf04e77adba79bf0ca871e7d6bf691d3"), looks := false }, kinds := [], alts := [], laidByText := true, laidKinds := [.data, .data], laidTests := true, laidLooks := .later }
def TableLooksUptoCardSaid : Prop := Claim7.holds Tryd.pinned (.plain (OpenSpec.upto tableLooksSpec)) tableLooksUptoCard

/-- THE SECOND FORM's CARD OF 'droverlaw11.TableOnce'. -/
def tableOnceUptoCard : Claim7 := { stood := { row := tableOnceUptoRow, standIns := [], harness := (true, "f13f1dc1bf588dfde507cd4fe444f92acf04e77adba79bf0ca871e7d6bf691d3"), looks := false }, kinds := [], alts := [], laidByText := true, laidKinds := [.data, .data], laidTests := true, laidLooks := .later }
def TableOnceUptoCardSaid : Prop := Claim7.holds Tryd.pinned (.plain (OpenSpec.upto tableOnceSpec)) tableOnceUptoCard

/-- THE SECOND FORM's CARD OF 'droverlaw11.TableClash'. -/
def tableClashUptoCard : Claim7 := { stood := { row := tableClashUptoRow, standIns := [], harness := (true, "f13f1dc1bf588dfde507cd4fe444f92acf04e77adba79bf0ca871e7d6bf691d3"), looks := false }, kinds := [], alts := [], laidByText := true, laidKinds := [.data, .data], laidTests := true, laidLooks := .later }
def TableClashUptoCardSaid : Prop := Claim7.holds Tryd.pinned (.plain (OpenSpec.upto tableClashSpec)) tableClashUptoCard

/-- THE SECOND FORM's CARD OF 'droverlaw11.TableNil'. -/
def tableNilUptoCard : Claim7 := { stood := { row := tableNilUptoRow, standIns := [], harness := (true, "f13f1dc1bf588dfde507cd4fe444f92acf04e77adba79bf0ca871e7d6bf691d3"), looks := false }, kinds := [], alts := [], laidByText := true, laidKinds := [.data, .data], laidTests := true, laidLooks := .later }
def TableNilUptoCardSaid : Prop := Claim7.holds Tryd.pinned (.plain (OpenSpec.upto tableNilSpec)) tableNilUptoCard
end Rows
end Go.Proofs.YtjjfhibkcngphaaDoor
