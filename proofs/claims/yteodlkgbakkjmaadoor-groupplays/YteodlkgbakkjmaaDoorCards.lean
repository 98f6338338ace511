/-
  DERIVED. GIVEN WITH THE SEED: THE CARDS: each row of YteodlkgbakkjmaaDoorRows.lean that lists a variable, with what it lists TIED to the program's text (the seventh form; the later family's looks); each row that meets fmt, with fmt's text TOLD by the authors' own Lean function (tested against real Go, not proved from fmt's source: count such statements apart). THE CARD IS WHAT COUNTS. Prove the row's statement (the work); the ties are given (YteodlkgbakkjmaaDoorTie.lean); close each card by the builder's one call (the guide's Derived/Test/ToyasCard.lean, 'card_holds'). Laid BY PROGRAM, IN A SANDBOX (cutbox-door.mjs). By AI agents, Wed Nov 11 2026. No macro, syntax, notation, axiom, sorry.
-/
import Derived.Test.YteodlkgbakkjmaaDoorRows
import GoSem.ClaimSeven
namespace Go.Proofs.YteodlkgbakkjmaaDoor
namespace Rows

/-- THE TIED CARD OF 'droverlaw10.GroupPlays'. -/
def groupPlaysCard : Claim7 := { stood := { row := groupPlaysRow, standIns := [], harness := (true, "72692a9e8867f1ad249abac75325231c938243899830c7287532a79e602ff778"), looks := false }, kinds := [], alts := [], laidByText := true, laidKinds := [.data], laidTests := true, laidLooks := .later }
def GroupPlaysCardSaid : Prop := Claim7.holds Tryd.pinned (.plain (OpenSpec.ofChange groupPlaysSpec)) groupPlaysCard

/-- THE TIED CARD OF 'droverlaw10.GroupChooses'. -/
def groupChoosesCard : Claim7 := { stood := { row := groupChoosesRow, standIns := [], harness := (true, "72692a9e8867f1ad249abac75325231c938243899830c7287532a79e602ff778"), looks := false }, kinds := [], alts := [], laidByText := true, laidKinds := [.data], laidTests := true, laidLooks := .later }
def GroupChoosesCardSaid : Prop := Claim7.holds Tryd.pinned (.plain (OpenSpec.ofChange groupChoosesSpec)) groupChoosesCard

/-- THE TIED CARD OF 'droverlaw10.GroupRuns'. -/
def groupRunsCard : Claim7 := { stood := { row := groupRunsRow, standIns := [], harness := (true, "72692a9e8867f1ad249abac75325231c938243899830c7287532a79e602ff778"), looks := false }, kinds := [], alts := [], laidByText := true, laidKinds := [.data], laidTests := true, laidLooks := .later }
def GroupRunsCardSaid : Prop := Claim7.holds Tryd.pinned (.plain (OpenSpec.ofChange groupRunsSpec)) groupRunsCard

/-- THE TIED CARD OF 'droverlaw10.GroupOne'. -/
def groupOneCard : Claim7 := { stood := { row := groupOneRow, standIns := [], harness := (true, "72692a9e8867f1ad249abac75325231c938243899830c7287532a79e602ff778"), looks := false }, kinds := [], alts := [], laidByText := true, laidKinds := [.data], laidTests := true, laidLooks := .later }
def GroupOneCardSaid : Prop := Claim7.holds Tryd.pinned (.plain (OpenSpec.ofChange groupOneSpec)) groupOneCard

/-- THE TIED CARD OF 'droverlaw10.GroupNil'. -/
def groupNilCard : Claim7 := { stood := { row := groupNilRow, standIns := [], harness := (true, "72692a9e8867f1ad249abac75325231c938243899830c7287532a79e602ff778"), looks := false }, kinds := [], alts := [], laidByText := true, laidKinds := [.data], laidTests := true, laidLooks := .later }
def GroupNilCardSaid : Prop := Claim7.holds Tryd.pinned (.plain (OpenSpec.ofChange groupNilSpec)) groupNilCard

/-- THE SECOND FORM's CARD OF 'droverlaw10.GroupPlays'. -/
def groupPlaysUptoCard : Claim7 := { stood := { row := groupPlaysUptoRow, standIns := [], harness := (true, "72692a9e8867f1ad249abac75325231c938243899830c7287532a79e602ff778"), looks := false }, kinds := [], alts := [], laidByText := true, laidKinds := [.data], laidTests := true, laidLooks := .later }
def GroupPlaysUptoCardSaid : Prop := Claim7.holds Tryd.pinned (.plain (OpenSpec.upto groupPlaysSpec)) groupPlaysUptoCard

/-- THE SECOND FORM's CARD OF 'droverlaw10.GroupChooses'. -/
def groupChoosesUptoCard : Claim7 := { stood := { row := groupChoosesUptoRow, standIns := [], harness := (true, "72692a9e8867f1ad249abac75325231c938243899830c7287532a79e602ff778"), looks := false }, kinds := [], alts := [], laidByText := true, laidKinds := [.data], laidTests := true, laidLooks := .later }
def GroupChoosesUptoCardSaid : Prop := Claim7.holds Tryd.pinned (.plain (OpenSpec.upto groupChoosesSpec)) groupChoosesUptoCard

/-- THE SECOND FORM's CARD OF 'droverlaw10.GroupRuns'. -/
def groupRunsUptoCard : Claim7 := { stood := { row := groupRunsUptoRow, standIns := [], harness := (true, "72692a9e8867f1ad249abac75325231c938243899830c7287532a79e602ff778"), looks := false }, kinds := [], alts := [], laidByText := true, laidKinds := [.data], laidTests := true, laidLooks := .later }
def GroupRunsUptoCardSaid : Prop := Claim7.holds Tryd.pinned (.plain (OpenSpec.upto groupRunsSpec)) groupRunsUptoCard

/-- THE SECOND FORM's CARD OF 'droverlaw10.GroupOne'. -/
def groupOneUptoCard : Claim7 := { stood := { row := groupOneUptoRow, standIns := [], harness := (true, "72692a9e8867f1ad249abac75325231c938243899830c7287532a79e602ff778"), looks := false }, kinds := [], alts := [], laidByText := true, laidKinds := [.data], laidTests := true, laidLooks := .later }
def GroupOneUptoCardSaid : Prop := Claim7.holds Tryd.pinned (.plain (OpenSpec.upto groupOneSpec)) groupOneUptoCard

/-- THE SECOND FORM's CARD OF 'droverlaw10.GroupNil'. -/
def groupNilUptoCard : Claim7 := { stood := { row := groupNilUptoRow, standIns := [], harness := (true, "72692a9e8867f1ad249abac75325231c938243899830c7287532a79e602ff778"), looks := false }, kinds := [], alts := [], laidByText := true, laidKinds := [.data], laidTests := true, laidLooks := .later }
def GroupNilUptoCardSaid : Prop := Claim7.holds Tryd.pinned (.plain (OpenSpec.upto groupNilSpec)) groupNilUptoCard
end Rows
end Go.Proofs.YteodlkgbakkjmaaDoor
