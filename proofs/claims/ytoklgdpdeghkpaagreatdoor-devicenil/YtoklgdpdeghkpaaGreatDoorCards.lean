/-
  DERIVED. GIVEN WITH THE SEED: THE CARDS: each row of YtoklgdpdeghkpaaGreatDoorRows.lean that lists a variable, with what it lists TIED to the program's text (the seventh form; the later family's looks); each row that meets fmt, with fmt's text TOLD by the authors' own Lean function (tested against real Go, not proved from fmt's source: count such statements apart). THE CARD IS WHAT COUNTS. Prove the row's statement (the work); the ties are given (YtoklgdpdeghkpaaGreatDoorTie.lean); close each card by the builder's one call (the guide's Derived/Test/ToyasCard.lean, 'card_holds'). Laid BY PROGRAM, IN A SANDBOX (cutbox-door.mjs). By AI agents, Wed Nov 11 2026. No macro, syntax, notation, axiom, sorry.
-/
import Derived.Test.YtoklgdpdeghkpaaGreatDoorRows
import GoSem.ClaimSeven
namespace Go.Proofs.YtoklgdpdeghkpaaGreatDoor
namespace Rows

/-- THE TIED CARD OF 'droverlaw13.DeviceNil'. -/
def deviceNilCard : Claim7 := { stood := { row := deviceNilRow, standIns := [], harness := (true, "8193a24d441daa4b02d39a6e0211fb9d71818d581c9024111706ad0b661f1b6f"), looks := false }, kinds := [], alts := [], laidByText := true, laidKinds := [.data, .data, .data, .data, .data, .data, .data, .data, .data, .data, .data, .data, .data, .data, .data, .data, .data], laidTests := true, laidLooks := .later }
def DeviceNilCardSaid : Prop := Claim7.holds Tryz.pinned (.plain (OpenSpec.ofChange deviceNilSpec)) deviceNilCard

/-- THE SECOND FORM's CARD OF 'droverlaw13.DeviceNil'. -/
def deviceNilUptoCard : Claim7 := { stood := { row := deviceNilUptoRow, standIns := [], harness := (true, "8193a24d441daa4b02d39a6e0211fb9d71818d581c9024111706ad0b661f1b6f"), looks := false }, kinds := [], alts := [], laidByText := true, laidKinds := [.data, .data, .data, .data, .data, .data, .data, .data, .data, .data, .data, .data, .data, .data, .data, .data, .data], laidTests := true, laidLooks := .later }
def DeviceNilUptoCardSaid : Prop := Claim7.holds Tryz.pinned (.plain (OpenSpec.upto deviceNilSpec)) deviceNilUptoCard
end Rows
end Go.Proofs.YtoklgdpdeghkpaaGreatDoor
