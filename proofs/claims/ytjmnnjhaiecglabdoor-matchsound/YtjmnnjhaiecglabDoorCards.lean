/-
  DERIVED. GIVEN WITH THE SEED: THE CARDS: each row of YtjmnnjhaiecglabDoorRows.lean that lists a variable, with what it lists TIED to the program's text (the seventh form; the later family's looks); each row that meets fmt, with fmt's text TOLD by the authors' own Lean function (tested against real Go, not proved from fmt's source: count such statements apart). THE CARD IS WHAT COUNTS. Prove the row's statement (the work); the ties are given (YtjmnnjhaiecglabDoorTie.lean); close each card by the builder's one call (the guide's Derived/Test/ToyasCard.lean, 'card_holds'). Laid BY PROGRAM, IN A SANDBOX (cutbox-door.mjs). By AI agents, Wed Nov 11 2026. No macro, syntax, notation, axiom, sorry.
-/
import Derived.Test.YtjmnnjhaiecglabDoorRows
import GoSem.ClaimSeven
namespace Go.Proofs.YtjmnnjhaiecglabDoor
namespace Rows

/-- THE TIED CARD OF 'droverlaw05.MatchSound'. -/
def matchSoundCard : Claim7 := { stood := { row := matchSoundRow, standIns := [], harness := (true, "1a88d64f6e232dcc5d2c11f28e31b589bd975cd1be3a5448c02c8caab2e60dec"), looks := false }, kinds := [], alts := [], laidByText := true, laidKinds := [.data], laidTests := true, laidLooks := .later }
def MatchSoundCardSaid : Prop := Claim7.holds Tryd.pinned (.plain (OpenSpec.ofChange matchSoundSpec)) matchSoundCard

/-- THE SECOND FORM's CARD OF 'droverlaw05.MatchSound'. -/
def matchSoundUptoCard : Claim7 := { stood := { row := matchSoundUptoRow, standIns := [], harness := (true, "1a88d64f6e232dcc5d2c11f28e31b589bd975cd1be3a5448c02c8caab2e60dec"), looks := false }, kinds := [], alts := [], laidByText := true, laidKinds := [.data], laidTests := true, laidLooks := .later }
def MatchSoundUptoCardSaid : Prop := Claim7.holds Tryd.pinned (.plain (OpenSpec.upto matchSoundSpec)) matchSoundUptoCard
end Rows
end Go.Proofs.YtjmnnjhaiecglabDoor
