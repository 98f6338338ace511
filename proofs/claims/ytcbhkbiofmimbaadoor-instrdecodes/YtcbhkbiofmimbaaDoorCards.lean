/-
  DERIVED. GIVEN WITH THE SEED: THE CARDS: each row of YtcbhkbiofmimbaaDoorRows.lean that lists a variable, with what it lists TIED to the program's text (the seventh form; the later family's looks); each row that meets fmt, with fmt's text TOLD by the authors' own Lean function (tested against real Go, not proved from fmt's source: count such statements apart). THE CARD IS WHAT COUNTS. Prove the row's statement (the work); the ties are given (YtcbhkbiofmimbaaDoorTie.lean); close each card by the builder's one call (the guide's Derived/Test/ToyasCard.lean, 'card_holds'). Laid BY PROGRAM, IN A SANDBOX (cutbox-door.mjs). By AI agents, Wed Nov 11 2026. No macro, syntax, notation, axiom, sorry.
-/
import Derived.Test.YtcbhkbiofmimbaaDoorRows
import GoSem.ClaimSeven
namespace Go.Proofs.YtcbhkbiofmimbaaDoor
namespace Rows

/-- THE TIED CARD OF 'droverlaw07.InstrRight'. -/
def instrRightCard : Claim7 := { stood := { row := instrRightRow, standIns := [], harness := (true, "7d787e6ef3c2ab23f9d0081dcfb998c082cf21c7ce83f5366a62548b7ce8cd36"), looks := false }, kinds := [], alts := [], laidByText := true, laidKinds := [.data, .data, .data], laidTests := true, laidLooks := .later }
def InstrRightCardSaid : Prop := Claim7.holds Tryd.pinned (.plain (OpenSpec.ofChange instrRightSpec)) instrRightCard

/-- THE TIED CARD OF 'droverlaw07.InstrEncodes'. -/
def instrEncodesCard : Claim7 := { stood := { row := instrEncodesRow, standIns := [], harness := (true, "7d787e6ef3c2ab23f9d0081dcfb998c082cf21c7ce83f5366a62548b7ce8cd36"), looks := false }, kinds := [], alts := [], laidByText := true, laidKinds := [.data, .data, .data], laidTests := true, laidLooks := .later }
def InstrEncodesCardSaid : Prop := Claim7.holds Tryd.pinned (.plain (OpenSpec.ofChange instrEncodesSpec)) instrEncodesCard

/-- THE TIED CARD OF 'droverlaw07.InstrDecodes'. -/
def instrDecodesCard : Claim7 := { stood := { row := instrDecodesRow, standIns := [], harness := (true, "7d787e6ef3c2ab23f9d0081dcfb998c082cf21c7ce83f5366a62548b7ce8cd36"), looks := false }, kinds := [], alts := [], laidByText := true, laidKinds := [.data, .data, .data], laidTests := true, laidLooks := .later }
def InstrDecodesCardSaid : Prop := Claim7.holds Tryd.pinned (.plain (OpenSpec.ofChange instrDecodesSpec)) instrDecodesCard

/-- THE TIED CARD OF 'droverlaw07.InstrBack'. -/
def instrBackCard : Claim7 := { stood := { row := instrBackRow, standIns := [], harness := (true, "7d787e6ef3c2ab23f9d0081dcfb998c082cf21c7ce83f5366a62548b7ce8cd36"), looks := false }, kinds := [], alts := [], laidByText := true, laidKinds := [.data, .data, .data], laidTests := true, laidLooks := .later }
def InstrBackCardSaid : Prop := Claim7.holds Tryd.pinned (.plain (OpenSpec.ofChange instrBackSpec)) instrBackCard

/-- THE TIED CARD OF 'droverlaw07.InstrGoes'. -/
def instrGoesCard : Claim7 := { stood := { row := instrGoesRow, standIns := [], harness := (true, "7d787e6ef3c2ab23f9d0081dcfb998c082cf21c7ce83f5366a62548b7ce8cd36"), looks := false }, kinds := [], alts := [], laidByText := true, laidKinds := [.data, .data, .data], laidTests := true, laidLooks := .later }
def InstrGoesCardSaid : Prop := Claim7.holds Tryd.pinned (.plain (OpenSpec.ofChange instrGoesSpec)) instrGoesCard

/-- THE SECOND FORM's CARD OF 'droverlaw07.InstrRight'. -/
def instrRightUptoCard : Claim7 := { stood := { row := instrRightUptoRow, standIns := [], harness := (true, "7d787e6ef3c2ab23f9d0081dcfb998c082cf21c7ce83f5366a62548b7ce8cd36"), looks := false }, kinds := [], alts := [], laidByText := true, laidKinds := [.data, .data, .data], laidTests := true, laidLooks := .later }
def InstrRightUptoCardSaid : Prop := Claim7.holds Tryd.pinned (.plain (OpenSpec.upto instrRightSpec)) instrRightUptoCard

/-- THE SECOND FORM's CARD OF 'droverlaw07.InstrEncodes'. -/
def instrEncodesUptoCard : Claim7 := { stood := { row := instrEncodesUptoRow, standIns := [], harness := (true, "7d787e6ef3c2ab23f9d0081dcfb998c082cf21c7ce83f5366a62548b7ce8cd36"), looks := false }, kinds := [], alts := [], laidByText := true, laidKinds := [.data, .data, .data], laidTests := true, laidLooks := .later }
def InstrEncodesUptoCardSaid : Prop := Claim7.holds Tryd.pinned (.plain (OpenSpec.upto instrEncodesSpec)) instrEncodesUptoCard

/-- THE SECOND FORM's CARD OF 'droverlaw07.InstrDecodes'. -/
def instrDecodesUptoCard : Claim7 := { stood := { row := instrDecodesUptoRow, standIns := [], harness := (true, "7d787e6ef3c2ab23f9d0081dcfb998c082cf21c7ce83f5366a62548b7ce8cd36"), looks := false }, kinds := [], alts := [], laidByText := true, laidKinds := [.data, .data, .data], laidTests := true, laidLooks := .later }
def InstrDecodesUptoCardSaid : Prop := Claim7.holds Tryd.pinned (.plain (OpenSpec.upto instrDecodesSpec)) instrDecodesUptoCard

/-- THE SECOND FORM's CARD OF 'droverlaw07.InstrBack'. -/
def instrBackUptoCard : Claim7 := { stood := { row := instrBackUptoRow, standIns := [], harness := (true, "7d787e6ef3c2ab23f9d0081dcfb998c082cf21c7ce83f5366a62548b7ce8cd36"), looks := false }, kinds := [], alts := [], laidByText := true, laidKinds := [.data, .data, .data], laidTests := true, laidLooks := .later }
def InstrBackUptoCardSaid : Prop := Claim7.holds Tryd.pinned (.plain (OpenSpec.upto instrBackSpec)) instrBackUptoCard

/-- THE SECOND FORM's CARD OF 'droverlaw07.InstrGoes'. -/
def instrGoesUptoCard : Claim7 := { stood := { row := instrGoesUptoRow, standIns := [], harness := (true, "7d787e6ef3c2ab23f9d0081dcfb998c082cf21c7ce83f5366a62548b7ce8cd36"), looks := false }, kinds := [], alts := [], laidByText := true, laidKinds := [.data, .data, .data], laidTests := true, laidLooks := .later }
def InstrGoesUptoCardSaid : Prop := Claim7.holds Tryd.pinned (.plain (OpenSpec.upto instrGoesSpec)) instrGoesUptoCard
end Rows
end Go.Proofs.YtcbhkbiofmimbaaDoor
