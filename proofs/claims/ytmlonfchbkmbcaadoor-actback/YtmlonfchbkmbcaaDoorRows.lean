/-
  NARROWER THAN 'FOR EVERY INPUT', by the rows' own cells (each row's printed sentence says how): ActEncodes: laid · ActDecodes: laid · ActChanges: laid · ActMerges: laid · ActBack: laid · ActSets: laid.
  DERIVED. THE GIVEN ROWS OF THIS SEAT. 6 by the template 'for every input the law returns true; each argument reads behind the call as it read before'; 0 by the template 'total and deterministic' (their statements: YtmlonfchbkmbcaaDoorTotals.lean).
  GIVEN WITH THE SEED: the statements are not yours to turn. If you find one false, say at which input.
  Laid BY PROGRAM, IN A SANDBOX (cutbox-rows.mjs): the forced cells as the released guide's own fill.sh prints them over the translation bafa4f576815031a… (all of the seat's roots in one cut). By AI agents, Wed Nov 11 2026. No macro, syntax, notation, axiom, sorry.
-/
import Derived.Test.YtmlonfchbkmbcaaDoorChecked
import GoSem.Claim
import GoSem.ClaimJoined
import GoSem.ClaimMapViews
import Derived.JoinedTies
import Derived.KernelRfl
namespace Go.Proofs.YtmlonfchbkmbcaaDoor
/- THE CELL 'sum', in the pinned program and in every row, IS THE sha256 OF THE DUMP (.gsa) THAT YtmlonfchbkmbcaaDoorProg.lean LOADS. Nothing in Lean hashes anything: it is a label: what it is worth is what the hold of that sum in a sandbox is worth. -/
noncomputable def Tryd.pinned : Pinned := { name := "ytmlonfchbkmbcaadoor", sum := "bafa4f576815031aa567eb0beeb7451214fbf9fe3659adf5acfe9bfac2130506", checked := Tryd.checked }
namespace Rows
def none {H : Type} : Left H := { results := [], args := [] }

/- WHAT THE LISTED PACKAGE-LEVEL VARIABLES READ AS WHEN THE CALL BEGINS. Each datum BY PROGRAM (the guide's laid-datum.mjs) off the statement by which the dump's own 'gosem.cut.vars' lays the variable. In a bare row this is a premise. The card (YtmlonfchbkmbcaaDoorCards.lean) ties it to the program's text. -/
def laid_drover_act_kinds {H : Type} : DataW H := .agg [.agg [.lit (.int .i64 1), .lit (.int .i64 0), .lit (.int .i64 16)], .agg [.lit (.int .i64 2), .lit (.int .i64 22), .lit (.int .i64 8)], .agg [.lit (.int .i64 3), .lit (.int .i64 17), .lit (.int .i64 8)], .agg [.lit (.int .i64 4), .lit (.int .i64 18), .lit (.int .i64 8)], .agg [.lit (.int .i64 5), .lit (.int .i64 25), .lit (.int .i64 16)]]
def laid_drover_act_codes {H : Type} : DataW H := .agg [.agg [.lit (.int .i64 3), .lit (.int .i64 6)], .agg [.lit (.int .i64 5), .lit (.int .i64 11)], .agg [.lit (.int .i64 6), .lit (.int .i64 12)], .agg [.lit (.int .i64 8), .lit (.int .i64 13)], .agg [.lit (.int .i64 9), .lit (.int .i64 14)]]

/-- 'droverlaw06.ActEncodes': WHATEVER THE INPUT: true; the input reads as it did. -/
def actEncodesSpec : ChangeSpec := { name := "actEncodes", fn := fun _ => fun
  | [d] => { results := [.lit (.bool true)], args := [d] }
  | _ => none }
def actEncodesRow : OpenClaim := { program := "ytmlonfchbkmbcaadoor", sum := "bafa4f576815031aa567eb0beeb7451214fbf9fe3659adf5acfe9bfac2130506", func := "drover/droverlaw06.ActEncodes", spec := "actEncodes", inPlace := ["internal/abi.NoEscape", "internal/bytealg.MakeNoZero"], unfollowed := true, recurses := true, named := ["drover/act.codes", "drover/act.kinds"], apart := false, laid := [("drover/act.kinds", laid_drover_act_kinds), ("drover/act.codes", laid_drover_act_codes)] }
def ActEncodesSaid : Prop := actEncodesRow.holds Tryd.pinned (OpenSpec.ofChange actEncodesSpec)

/-- ITS FALSE NEIGHBOUR: 'it returns false'. Refute it at one input. -/
def actEncodesWrong : ChangeSpec := { name := "actEncodes", fn := fun _ => fun
  | [d] => { results := [.lit (.bool false)], args := [d] }
  | _ => none }
def ActEncodesWrongFalsely : Prop := actEncodesRow.holds Tryd.pinned (OpenSpec.ofChange actEncodesWrong)

/-- 'droverlaw06.ActDecodes': WHATEVER THE INPUT: true; the input reads as it did. -/
def actDecodesSpec : ChangeSpec := { name := "actDecodes", fn := fun _ => fun
  | [d] => { results := [.lit (.bool true)], args := [d] }
  | _ => none }
def actDecodesRow : OpenClaim := { program := "ytmlonfchbkmbcaadoor", sum := "bafa4f576815031aa567eb0beeb7451214fbf9fe3659adf5acfe9bfac2130506", func := "drover/droverlaw06.ActDecodes", spec := "actDecodes", inPlace := ["internal/abi.NoEscape", "internal/bytealg.MakeNoZero"], unfollowed := true, recurses := true, named := ["drover/act.codes", "drover/act.kinds"], apart := false, laid := [("drover/act.kinds", laid_drover_act_kinds), ("drover/act.codes", laid_drover_act_codes)] }
def ActDecodesSaid : Prop := actDecodesRow.holds Tryd.pinned (OpenSpec.ofChange actDecodesSpec)

/-- ITS FALSE NEIGHBOUR: 'it returns false'. Refute it at one input. -/
def actDecodesWrong : ChangeSpec := { name := "actDecodes", fn := fun _ => fun
  | [d] => { results := [.lit (.bool false)], args := [d] }
  | _ => none }
def ActDecodesWrongFalsely : Prop := actDecodesRow.holds Tryd.pinned (OpenSpec.ofChange actDecodesWrong)

/-- 'droverlaw06.ActChanges': WHATEVER THE INPUT: true; the input reads as it did. -/
def actChangesSpec : ChangeSpec := { name := "actChanges", fn := fun _ => fun
  | [d1, d2] => { results := [.lit (.bool true)], args := [d1, d2] }
  | _ => none }
def actChangesRow : OpenClaim := { program := "ytmlonfchbkmbcaadoor", sum := "bafa4f576815031aa567eb0beeb7451214fbf9fe3659adf5acfe9bfac2130506", func := "drover/droverlaw06.ActChanges", spec := "actChanges", inPlace := ["internal/abi.NoEscape", "internal/bytealg.MakeNoZero"], unfollowed := true, recurses := true, named := ["drover/act.codes", "drover/act.kinds"], apart := false, laid := [("drover/act.kinds", laid_drover_act_kinds), ("drover/act.codes", laid_drover_act_codes)] }
def ActChangesSaid : Prop := actChangesRow.holds Tryd.pinned (OpenSpec.ofChange actChangesSpec)

/-- ITS FALSE NEIGHBOUR: 'it returns false'. Refute it at one input. -/
def actChangesWrong : ChangeSpec := { name := "actChanges", fn := fun _ => fun
  | [d1, d2] => { results := [.lit (.bool false)], args := [d1, d2] }
  | _ => none }
def ActChangesWrongFalsely : Prop := actChangesRow.holds Tryd.pinned (OpenSpec.ofChange actChangesWrong)

/-- 'droverlaw06.ActMerges': WHATEVER THE INPUT: true; the input reads as it did. -/
def actMergesSpec : ChangeSpec := { name := "actMerges", fn := fun _ => fun
  | [d1, d2] => { results := [.lit (.bool true)], args := [d1, d2] }
  | _ => none }
def actMergesRow : OpenClaim := { program := "ytmlonfchbkmbcaadoor", sum := "bafa4f576815031aa567eb0beeb7451214fbf9fe3659adf5acfe9bfac2130506", func := "drover/droverlaw06.ActMerges", spec := "actMerges", inPlace := ["internal/abi.NoEscape", "internal/bytealg.MakeNoZero"], unfollowed := true, recurses := true, named := ["drover/act.codes", "drover/act.kinds"], apart := false, laid := [("drover/act.kinds", laid_drover_act_kinds), ("drover/act.codes", laid_drover_act_codes)] }
def ActMergesSaid : Prop := actMergesRow.holds Tryd.pinned (OpenSpec.ofChange actMergesSpec)

/-- ITS FALSE NEIGHBOUR: 'it returns false'. Refute it at one input. -/
def actMergesWrong : ChangeSpec := { name := "actMerges", fn := fun _ => fun
  | [d1, d2] => { results := [.lit (.bool false)], args := [d1, d2] }
  | _ => none }
def ActMergesWrongFalsely : Prop := actMergesRow.holds Tryd.pinned (OpenSpec.ofChange actMergesWrong)

/-- 'droverlaw06.ActBack': WHATEVER THE INPUT: true; the input reads as it did. -/
def actBackSpec : ChangeSpec := { name := "actBack", fn := fun _ => fun
  | [d1, d2] => { results := [.lit (.bool true)], args := [d1, d2] }
  | _ => none }
def actBackRow : OpenClaim := { program := "ytmlonfchbkmbcaadoor", sum := "bafa4f576815031aa567eb0beeb7451214fbf9fe3659adf5acfe9bfac2130506", func := "drover/droverlaw06.ActBack", spec := "actBack", inPlace := ["internal/abi.NoEscape", "internal/bytealg.MakeNoZero"], unfollowed := true, recurses := true, named := ["drover/act.codes", "drover/act.kinds"], apart := false, laid := [("drover/act.kinds", laid_drover_act_kinds), ("drover/act.codes", laid_drover_act_codes)] }
def ActBackSaid : Prop := actBackRow.holds Tryd.pinned (OpenSpec.ofChange actBackSpec)

/-- ITS FALSE NEIGHBOUR: 'it returns false'. Refute it at one input. -/
def actBackWrong : ChangeSpec := { name := "actBack", fn := fun _ => fun
  | [d1, d2] => { results := [.lit (.bool false)], args := [d1, d2] }
  | _ => none }
def ActBackWrongFalsely : Prop := actBackRow.holds Tryd.pinned (OpenSpec.ofChange actBackWrong)

/-- 'droverlaw06.ActSets': WHATEVER THE INPUT: true; the input reads as it did. -/
def actSetsSpec : ChangeSpec := { name := "actSets", fn := fun _ => fun
  | [d1, d2, d3] => { results := [.lit (.bool true)], args := [d1, d2, d3] }
  | _ => none }
def actSetsRow : OpenClaim := { program := "ytmlonfchbkmbcaadoor", sum := "bafa4f576815031aa567eb0beeb7451214fbf9fe3659adf5acfe9bfac2130506", func := "drover/droverlaw06.ActSets", spec := "actSets", inPlace := ["internal/abi.NoEscape", "internal/bytealg.MakeNoZero"], unfollowed := true, recurses := true, named := ["drover/act.codes", "drover/act.kinds"], apart := false, laid := [("drover/act.kinds", laid_drover_act_kinds), ("drover/act.codes", laid_drover_act_codes)] }
def ActSetsSaid : Prop := actSetsRow.holds Tryd.pinned (OpenSpec.ofChange actSetsSpec)

/-- ITS FALSE NEIGHBOUR: 'it returns false'. Refute it at one input. -/
def actSetsWrong : ChangeSpec := { name := "actSets", fn := fun _ => fun
  | [d1, d2, d3] => { results := [.lit (.bool false)], args := [d1, d2, d3] }
  | _ => none }
def ActSetsWrongFalsely : Prop := actSetsRow.holds Tryd.pinned (OpenSpec.ofChange actSetsWrong)

/- THE SECOND FORM. 'bulk': how many values and letters a reading holds, each counted each time it is reached (what is shared counts as often as it is met; a slice's spare places count too). A statement '..UptoSaid' is the law's where the arguments, and the package variables that the reading takes, are together of bulk at most 1048576: NARROWER than '..Said'. Prove '..Said' where nothing that the law and all that it calls make is longer than what came in: it says more and counts as full. Else prove '..UptoSaid'. A law counts once. -/
mutual
def uptoBulk {H : Type} : DataW H → Nat
  | .lit (.string bytes) => bytes.length + 1
  | .lit _ => 1
  | .nil => 1
  | .ptr d => uptoBulk d + 1
  | .slice elems spare => uptoBulkAll elems + uptoBulkAll spare + 1
  | .agg parts => uptoBulkAll parts + 1
  | .iface _ d => uptoBulk d + 1
  | .map entries => uptoBulkEntries entries + 1
  | .held _ => 1
def uptoBulkAll {H : Type} : List (DataW H) → Nat
  | [] => 0
  | d :: r => uptoBulk d + uptoBulkAll r
def uptoBulkEntries {H : Type} : List (Lit × DataW H) → Nat
  | [] => 0
  | x :: r => uptoBulkEntry x + uptoBulkEntries r
def uptoBulkEntry {H : Type} : Lit × DataW H → Nat
  | (.string bytes, d) => bytes.length + uptoBulk d + 1
  | (_, d) => uptoBulk d + 1
 end
def uptoSmall : (H : Type) → List (DataW H) → Bool := fun _ ds => decide (uptoBulkAll ds ≤ 1048576)
def OpenSpec.upto (s : _root_.Go.ChangeSpec) : _root_.Go.OpenSpec := { _root_.Go.OpenSpec.ofChange s with cond := some uptoSmall }

/-- 'droverlaw06.ActEncodes', WHERE WHAT IT READS IS OF BULK AT MOST 1048576: true; the input reads as it did. -/
def actEncodesUptoRow : OpenClaim := { program := "ytmlonfchbkmbcaadoor", sum := "bafa4f576815031aa567eb0beeb7451214fbf9fe3659adf5acfe9bfac2130506", func := "drover/droverlaw06.ActEncodes", spec := "actEncodes", inPlace := ["internal/abi.NoEscape", "internal/bytealg.MakeNoZero"], unfollowed := true, recurses := true, named := ["drover/act.codes", "drover/act.kinds"], apart := false, laid := [("drover/act.kinds", laid_drover_act_kinds), ("drover/act.codes", laid_drover_act_codes)], narrowed := true }
def ActEncodesUptoSaid : Prop := actEncodesUptoRow.holds Tryd.pinned (OpenSpec.upto actEncodesSpec)

/-- 'droverlaw06.ActDecodes', WHERE WHAT IT READS IS OF BULK AT MOST 1048576: true; the input reads as it did. -/
def actDecodesUptoRow : OpenClaim := { program := "ytmlonfchbkmbcaadoor", sum := "bafa4f576815031aa567eb0beeb7451214fbf9fe3659adf5acfe9bfac2130506", func := "drover/droverlaw06.ActDecodes", spec := "actDecodes", inPlace := ["internal/abi.NoEscape", "internal/bytealg.MakeNoZero"], unfollowed := true, recurses := true, named := ["drover/act.codes", "drover/act.kinds"], apart := false, laid := [("drover/act.kinds", laid_drover_act_kinds), ("drover/act.codes", laid_drover_act_codes)], narrowed := true }
def ActDecodesUptoSaid : Prop := actDecodesUptoRow.holds Tryd.pinned (OpenSpec.upto actDecodesSpec)

/-- 'droverlaw06.ActChanges', WHERE WHAT IT READS IS OF BULK AT MOST 1048576: true; the input reads as it did. -/
def actChangesUptoRow : OpenClaim := { program := "ytmlonfchbkmbcaadoor", sum := "bafa4f576815031aa567eb0beeb7451214fbf9fe3659adf5acfe9bfac2130506", func := "drover/droverlaw06.ActChanges", spec := "actChanges", inPlace := ["internal/abi.NoEscape", "internal/bytealg.MakeNoZero"], unfollowed := true, recurses := true, named := ["drover/act.codes", "drover/act.kinds"], apart := false, laid := [("drover/act.kinds", laid_drover_act_kinds), ("drover/act.codes", laid_drover_act_codes)], narrowed := true }
def ActChangesUptoSaid : Prop := actChangesUptoRow.holds Tryd.pinned (OpenSpec.upto actChangesSpec)

/-- 'droverlaw06.ActMerges', WHERE WHAT IT READS IS OF BULK AT MOST 1048576: true; the input reads as it did. -/
def actMergesUptoRow : OpenClaim := { program := "ytmlonfchbkmbcaadoor", sum := "bafa4f576815031aa567eb0beeb7451214fbf9fe3659adf5acfe9bfac2130506", func := "drover/droverlaw06.ActMerges", spec := "actMerges", inPlace := ["internal/abi.NoEscape", "internal/bytealg.MakeNoZero"], unfollowed := true, recurses := true, named := ["drover/act.codes", "drover/act.kinds"], apart := false, laid := [("drover/act.kinds", laid_drover_act_kinds), ("drover/act.codes", laid_drover_act_codes)], narrowed := true }
def ActMergesUptoSaid : Prop := actMergesUptoRow.holds Tryd.pinned (OpenSpec.upto actMergesSpec)

/-- 'droverlaw06.ActBack', WHERE WHAT IT READS IS OF BULK AT MOST 1048576: true; the input reads as it did. -/
def actBackUptoRow : OpenClaim := { program := "ytmlonfchbkmbcaadoor", sum := "bafa4f576815031aa567eb0beeb7451214fbf9fe3659adf5acfe9bfac2130506", func := "drover/droverlaw06.ActBack", spec := "actBack", inPlace := ["internal/abi.NoEscape", "internal/bytealg.MakeNoZero"], unfollowed := true, recurses := true, named := ["drover/act.codes", "drover/act.kinds"], apart := false, laid := [("drover/act.kinds", laid_drover_act_kinds), ("drover/act.codes", laid_drover_act_codes)], narrowed := true }
def ActBackUptoSaid : Prop := actBackUptoRow.holds Tryd.pinned (OpenSpec.upto actBackSpec)

/-- 'droverlaw06.ActSets', WHERE WHAT IT READS IS OF BULK AT MOST 1048576: true; the input reads as it did. -/
def actSetsUptoRow : OpenClaim := { program := "ytmlonfchbkmbcaadoor", sum := "bafa4f576815031aa567eb0beeb7451214fbf9fe3659adf5acfe9bfac2130506", func := "drover/droverlaw06.ActSets", spec := "actSets", inPlace := ["internal/abi.NoEscape", "internal/bytealg.MakeNoZero"], unfollowed := true, recurses := true, named := ["drover/act.codes", "drover/act.kinds"], apart := false, laid := [("drover/act.kinds", laid_drover_act_kinds), ("drover/act.codes", laid_drover_act_codes)], narrowed := true }
def ActSetsUptoSaid : Prop := actSetsUptoRow.holds Tryd.pinned (OpenSpec.upto actSetsSpec)

end Rows
end Go.Proofs.YtmlonfchbkmbcaaDoor
