/-
  DERIVED. GIVEN WITH THE SEED: THE CARDS: each row of YtgnihbdcdefdgaaGreatDoorRows.lean that lists a variable, with what it lists TIED to the program's text (the seventh form; the later family's looks); each row that meets fmt, with fmt's text TOLD by the authors' own Lean function (tested against real Go, not proved from fmt's source: count such statements apart). THE CARD IS WHAT COUNTS. Prove the row's statement (the work); the ties are given (YtgnihbdcdefdgaaGreatDoorTie.lean); close each card by the builder's one call (the guide's Derived/Test/ToyasCard.lean, 'card_holds'). Laid BY PROGRAM, IN A SANDBOX (cutbox-door.mjs). By AI agents, Wed Nov 11 2026. No macro, syntax, notation, axiom, sorry.
-/
import Derived.Test.YtgnihbdcdefdgaaGreatDoorRows
import GoSem.ClaimSeven
namespace Go.Proofs.YtgnihbdcdefdgaaGreatDoor
namespace Rows

/-- THE TIED CARD OF 'droverlaw12.PipeRuns'. -/
def pipeRunsCard : Claim7 := { stood := { row := pipeRunsRow, standIns := [], harness := (true, "4a0305c360df6f0c98e274e60f8db60d93c9e2124eee3e981a66268cf2738dda"), looks := false }, kinds := [], alts := [], laidByText := true, laidKinds := [.data, .data], laidTests := true, laidLooks := .later }
def PipeRunsCardSaid : Prop := Claim7.holds Tryz.pinned (.plain (OpenSpec.ofChange pipeRunsSpec)) pipeRunsCard

/-- THE TIED CARD OF 'droverlaw12.PipeActs'. -/
def pipeActsCard : Claim7 := { stood := { row := pipeActsRow, standIns := [], harness := (true, "4a0305c360df6f0c98e274e60f8db60d93c9e2124eee3e981a66268cf2738dda"), looks := false }, kinds := [], alts := [], laidByText := true, laidKinds := [.data, .data], laidTests := true, laidLooks := .later }
def PipeActsCardSaid : Prop := Claim7.holds Tryz.pinned (.plain (OpenSpec.ofChange pipeActsSpec)) pipeActsCard

/-- THE TIED CARD OF 'droverlaw12.PipePorts'. -/
def pipePortsCard : Claim7 := { stood := { row := pipePortsRow, standIns := [], harness := (true, "4a0305c360df6f0c98e274e60f8db60d93c9e2124eee3e981a66268cf2738dda"), looks := false }, kinds := [], alts := [], laidByText := true, laidKinds := [.data, .data], laidTests := true, laidLooks := .later }
def PipePortsCardSaid : Prop := Claim7.holds Tryz.pinned (.plain (OpenSpec.ofChange pipePortsSpec)) pipePortsCard

/-- THE TIED CARD OF 'droverlaw12.PipeStays'. -/
def pipeStaysCard : Claim7 := { stood := { row := pipeStaysRow, standIns := [], harness := (true, "4a0305c360df6f0c98e274e60f8db60d93c9e2124eee3e981a66268cf2738dda"), looks := false }, kinds := [], alts := [], laidByText := true, laidKinds := [.data, .data], laidTests := true, laidLooks := .later }
def PipeStaysCardSaid : Prop := Claim7.holds Tryz.pinned (.plain (OpenSpec.ofChange pipeStaysSpec)) pipeStaysCard

/-- THE TIED CARD OF 'droverlaw12.PipeNone'. -/
def pipeNoneCard : Claim7 := { stood := { row := pipeNoneRow, standIns := [], harness := (true, "4a0305c360df6f0c98e274e60f8db60d93c9e2124eee3e981a66268cf2738dda"), looks := false }, kinds := [], alts := [], laidByText := true, laidKinds := [.data, .data], laidTests := true, laidLooks := .later }
def PipeNoneCardSaid : Prop := Claim7.holds Tryz.pinned (.plain (OpenSpec.ofChange pipeNoneSpec)) pipeNoneCard

/-- THE SECOND FORM's CARD OF 'droverlaw12.PipeRuns'. -/
def pipeRunsUptoCard : Claim7 := { stood := { row := pipeRunsUptoRow, standIns := [], harness := (true, "4a0305c360df6f0c98e274e60f8db60d93c9e2124eee3e981a66268cf2738dda"), looks := false }, kinds := [], alts := [], laidByText := true, laidKinds := [.data, .data], laidTests := true, laidLooks := .later }
def PipeRunsUptoCardSaid : Prop := Claim7.holds Tryz.pinned (.plain (OpenSpec.upto pipeRunsSpec)) pipeRunsUptoCard

/-- THE SECOND FORM's CARD OF 'droverlaw12.PipeActs'. -/
def pipeActsUptoCard : Claim7 := { stood := { row := pipeActsUptoRow, standIns := [], harness := (true, "4a0305c360df6f0c98e274e60f8db60d93c9e2124eee3e981a66268cf2738dda"), looks := false }, kinds := [], alts := [], laidByText := true, laidKinds := [.data, .data], laidTests := true, laidLooks := .later }
def PipeActsUptoCardSaid : Prop := Claim7.holds Tryz.pinned (.plain (OpenSpec.upto pipeActsSpec)) pipeActsUptoCard

/-- THE SECOND FORM's CARD OF 'droverlaw12.PipePorts'. -/
def pipePortsUptoCard : Claim7 := { stood := { row := pipePortsUptoRow, standIns := [], harness := (true, "4a0305c360df6f0c98e274e60f8db60d93c9e2124eee3e981a66268cf2738dda"), looks := false }, kinds := [], alts := [], laidByText := true, laidKinds := [.data, .data], laidTests := true, laidLooks := .later }
def PipePortsUptoCardSaid : Prop := Claim7.holds Tryz.pinned (.plain (OpenSpec.upto pipePortsSpec)) pipePortsUptoCard

/-- THE SECOND FORM's CARD OF 'droverlaw12.PipeStays'. -/
def pipeStaysUptoCard : Claim7 := { stood := { row := pipeStaysUptoRow, standIns := [], harness := (true, "4a0305c360df6f0c98e274e60f8db60d93c9e2124eee3e981a66268cf2738dda"), looks := false }, kinds := [], alts := [], laidByText := true, laidKinds := [.data, .data], laidTests := true, laidLooks := .later }
def PipeStaysUptoCardSaid : Prop := Claim7.holds Tryz.pinned (.plain (OpenSpec.upto pipeStaysSpec)) pipeStaysUptoCard

/-- THE SECOND FORM's CARD OF 'droverlaw12.PipeNone'. -/
def pipeNoneUptoCard : Claim7 := { stood := { row := pipeNoneUptoRow, standIns := [], harness := (true, "4a0305c360df6f0c98e274e60f8db60d93c9e2124eee3e981a66268cf2738dda"), looks := false }, kinds := [], alts := [], laidByText := true, laidKinds := [.data, .data], laidTests := true, laidLooks := .later }
def PipeNoneUptoCardSaid : Prop := Claim7.holds Tryz.pinned (.plain (OpenSpec.upto pipeNoneSpec)) pipeNoneUptoCard
end Rows
end Go.Proofs.YtgnihbdcdefdgaaGreatDoor
