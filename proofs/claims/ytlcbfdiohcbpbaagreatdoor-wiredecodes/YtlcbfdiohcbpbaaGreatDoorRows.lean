/-
  NARROWER THAN 'FOR EVERY INPUT', by the rows' own cells (each row's printed sentence says how): WireEncodes: laid · WireDecodes: laid · WireBack: laid · WireShort: laid · WireHead: laid.
  DERIVED. THE GIVEN ROWS OF THIS SEAT. 5 by the template 'for every input the law returns true; each argument reads behind the call as it read before'; 0 by the template 'total and deterministic' (their statements: YtlcbfdiohcbpbaaGreatDoorTotals.lean).
  GIVEN WITH THE SEED: the statements are not yours to turn. If you find one false, say at which input.
  Laid BY PROGRAM, IN A SANDBOX (cutbox-rows.mjs): the forced cells as the released guide's own fill.sh prints them over the translation 22bd951d2c376153… (all of the seat's roots in one cut). By AI agents, Wed Nov 11 2026. No macro, syntax, notation, axiom, sorry.
-/
import Derived.Test.YtlcbfdiohcbpbaaGreatDoorChecked
import GoSem.Claim
import GoSem.ClaimJoined
import GoSem.ClaimMapViews
import Derived.JoinedTies
import Derived.KernelRfl
namespace Go.Proofs.YtlcbfdiohcbpbaaGreatDoor
/- THE CELL 'sum', in the pinned program and in every row, IS THE sha256 OF THE DUMP (.gsa) THAT YtlcbfdiohcbpbaaGreatDoorProg.lean LOADS. Nothing in Lean hashes anything: it is a label: what it is worth is what the hold of that sum in a sandbox is worth. -/
noncomputable def Tryz.pinned : Pinned := { name := "ytlcbfdiohcbpbaagreatdoor", sum := "22bd951d2c376153d43d78404a3496d3965fef5c5bb8aa7e62ba6c67e8ed3956", checked := Tryz.checked }
namespace Rows
def none {H : Type} : Left H := { results := [], args := [] }

/- WHAT THE LISTED PACKAGE-LEVEL VARIABLES READ AS WHEN THE CALL BEGINS. Each datum BY PROGRAM (the guide's laid-datum.mjs) off the statement by which the dump's own 'gosem.cut.vars' lays the variable. In a bare row this is a premise. The card (YtlcbfdiohcbpbaaGreatDoorCards.lean) ties it to the program's text. -/
def laid_drover_act_kinds {H : Type} : DataW H := .agg [.agg [.lit (.int .i64 1), .lit (.int .i64 0), .lit (.int .i64 16)], .agg [.lit (.int .i64 2), .lit (.int .i64 22), .lit (.int .i64 8)], .agg [.lit (.int .i64 3), .lit (.int .i64 17), .lit (.int .i64 8)], .agg [.lit (.int .i64 4), .lit (.int .i64 18), .lit (.int .i64 8)], .agg [.lit (.int .i64 5), .lit (.int .i64 25), .lit (.int .i64 16)]]
def laid_drover_act_codes {H : Type} : DataW H := .agg [.agg [.lit (.int .i64 3), .lit (.int .i64 6)], .agg [.lit (.int .i64 5), .lit (.int .i64 11)], .agg [.lit (.int .i64 6), .lit (.int .i64 12)], .agg [.lit (.int .i64 8), .lit (.int .i64 13)], .agg [.lit (.int .i64 9), .lit (.int .i64 14)]]
def laid_drover_instr_order {H : Type} : DataW H := .agg [.lit (.int .i64 6), .lit (.int .i64 4), .lit (.int .i64 5), .lit (.int .i64 3), .lit (.int .i64 2), .lit (.int .i64 1)]
def laid_drover_match_codes {H : Type} : DataW H := .agg [.agg [.lit (.int .i64 1), .lit (.int .i64 0), .lit (.int .i64 0)], .agg [.lit (.int .i64 2), .lit (.int .i64 0), .lit (.int .i64 2)], .agg [.lit (.int .i64 4), .lit (.int .i64 0), .lit (.int .i64 5)], .agg [.lit (.int .i64 3), .lit (.int .i64 0), .lit (.int .i64 6)], .agg [.lit (.int .i64 7), .lit (.int .i64 0), .lit (.int .i64 10)], .agg [.lit (.int .i64 5), .lit (.int .i64 0), .lit (.int .i64 11)], .agg [.lit (.int .i64 6), .lit (.int .i64 0), .lit (.int .i64 12)], .agg [.lit (.int .i64 8), .lit (.int .i64 6), .lit (.int .i64 13)], .agg [.lit (.int .i64 9), .lit (.int .i64 6), .lit (.int .i64 14)], .agg [.lit (.int .i64 8), .lit (.int .i64 17), .lit (.int .i64 15)], .agg [.lit (.int .i64 9), .lit (.int .i64 17), .lit (.int .i64 16)]]

/-- 'droverlaw08.WireEncodes': WHATEVER THE INPUT: true; the input reads as it did. -/
def wireEncodesSpec : ChangeSpec := { name := "wireEncodes", fn := fun _ => fun
  | [d] => { results := [.lit (.bool true)], args := [d] }
  | _ => none }
def wireEncodesRow : OpenClaim := { program := "ytlcbfdiohcbpbaagreatdoor", sum := "22bd951d2c376153d43d78404a3496d3965fef5c5bb8aa7e62ba6c67e8ed3956", func := "drover/droverlaw08.WireEncodes", spec := "wireEncodes", inPlace := ["internal/abi.NoEscape", "internal/bytealg.MakeNoZero"], named := ["drover/act.codes", "drover/act.kinds", "drover/match.codes", "drover/instr.order"], apart := false, laid := [("drover/act.kinds", laid_drover_act_kinds), ("drover/act.codes", laid_drover_act_codes), ("drover/instr.order", laid_drover_instr_order), ("drover/match.codes", laid_drover_match_codes)] }
def WireEncodesSaid : Prop := wireEncodesRow.holds Tryz.pinned (OpenSpec.ofChange wireEncodesSpec)

/-- ITS FALSE NEIGHBOUR: 'it returns false'. Refute it at one input. -/
def wireEncodesWrong : ChangeSpec := { name := "wireEncodes", fn := fun _ => fun
  | [d] => { results := [.lit (.bool false)], args := [d] }
  | _ => none }
def WireEncodesWrongFalsely : Prop := wireEncodesRow.holds Tryz.pinned (OpenSpec.ofChange wireEncodesWrong)

/-- 'droverlaw08.WireDecodes': WHATEVER THE INPUT: true; the input reads as it did. -/
def wireDecodesSpec : ChangeSpec := { name := "wireDecodes", fn := fun _ => fun
  | [d] => { results := [.lit (.bool true)], args := [d] }
  | _ => none }
def wireDecodesRow : OpenClaim := { program := "ytlcbfdiohcbpbaagreatdoor", sum := "22bd951d2c376153d43d78404a3496d3965fef5c5bb8aa7e62ba6c67e8ed3956", func := "drover/droverlaw08.WireDecodes", spec := "wireDecodes", inPlace := ["internal/abi.NoEscape", "internal/bytealg.MakeNoZero"], named := ["drover/act.codes", "drover/act.kinds", "drover/match.codes", "drover/instr.order"], apart := false, laid := [("drover/act.kinds", laid_drover_act_kinds), ("drover/act.codes", laid_drover_act_codes), ("drover/instr.order", laid_drover_instr_order), ("drover/match.codes", laid_drover_match_codes)] }
def WireDecodesSaid : Prop := wireDecodesRow.holds Tryz.pinned (OpenSpec.ofChange wireDecodesSpec)

/-- ITS FALSE NEIGHBOUR: 'it returns false'. Refute it at one input. -/
def wireDecodesWrong : ChangeSpec := { name := "wireDecodes", fn := fun _ => fun
  | [d] => { results := [.lit (.bool false)], args := [d] }
  | _ => none }
def WireDecodesWrongFalsely : Prop := wireDecodesRow.holds Tryz.pinned (OpenSpec.ofChange wireDecodesWrong)

/-- 'droverlaw08.WireBack': WHATEVER THE INPUT: true; the input reads as it did. -/
def wireBackSpec : ChangeSpec := { name := "wireBack", fn := fun _ => fun
  | [d1, d2] => { results := [.lit (.bool true)], args := [d1, d2] }
  | _ => none }
def wireBackRow : OpenClaim := { program := "ytlcbfdiohcbpbaagreatdoor", sum := "22bd951d2c376153d43d78404a3496d3965fef5c5bb8aa7e62ba6c67e8ed3956", func := "drover/droverlaw08.WireBack", spec := "wireBack", inPlace := ["internal/abi.NoEscape", "internal/bytealg.MakeNoZero"], named := ["drover/act.codes", "drover/act.kinds", "drover/match.codes", "drover/instr.order"], apart := false, laid := [("drover/act.kinds", laid_drover_act_kinds), ("drover/act.codes", laid_drover_act_codes), ("drover/instr.order", laid_drover_instr_order), ("drover/match.codes", laid_drover_match_codes)] }
def WireBackSaid : Prop := wireBackRow.holds Tryz.pinned (OpenSpec.ofChange wireBackSpec)

/-- ITS FALSE NEIGHBOUR: 'it returns false'. Refute it at one input. -/
def wireBackWrong : ChangeSpec := { name := "wireBack", fn := fun _ => fun
  | [d1, d2] => { results := [.lit (.bool false)], args := [d1, d2] }
  | _ => none }
def WireBackWrongFalsely : Prop := wireBackRow.holds Tryz.pinned (OpenSpec.ofChange wireBackWrong)

/-- 'droverlaw08.WireShort': WHATEVER THE INPUT: true; the input reads as it did. -/
def wireShortSpec : ChangeSpec := { name := "wireShort", fn := fun _ => fun
  | [d1, d2] => { results := [.lit (.bool true)], args := [d1, d2] }
  | _ => none }
def wireShortRow : OpenClaim := { program := "ytlcbfdiohcbpbaagreatdoor", sum := "22bd951d2c376153d43d78404a3496d3965fef5c5bb8aa7e62ba6c67e8ed3956", func := "drover/droverlaw08.WireShort", spec := "wireShort", inPlace := ["internal/abi.NoEscape", "internal/bytealg.MakeNoZero"], named := ["drover/act.codes", "drover/act.kinds", "drover/match.codes", "drover/instr.order"], apart := false, laid := [("drover/act.kinds", laid_drover_act_kinds), ("drover/act.codes", laid_drover_act_codes), ("drover/instr.order", laid_drover_instr_order), ("drover/match.codes", laid_drover_match_codes)] }
def WireShortSaid : Prop := wireShortRow.holds Tryz.pinned (OpenSpec.ofChange wireShortSpec)

/-- ITS FALSE NEIGHBOUR: 'it returns false'. Refute it at one input. -/
def wireShortWrong : ChangeSpec := { name := "wireShort", fn := fun _ => fun
  | [d1, d2] => { results := [.lit (.bool false)], args := [d1, d2] }
  | _ => none }
def WireShortWrongFalsely : Prop := wireShortRow.holds Tryz.pinned (OpenSpec.ofChange wireShortWrong)

/-- 'droverlaw08.WireHead': WHATEVER THE INPUT: true; the input reads as it did. -/
def wireHeadSpec : ChangeSpec := { name := "wireHead", fn := fun _ => fun
  | [d] => { results := [.lit (.bool true)], args := [d] }
  | _ => none }
def wireHeadRow : OpenClaim := { program := "ytlcbfdiohcbpbaagreatdoor", sum := "22bd951d2c376153d43d78404a3496d3965fef5c5bb8aa7e62ba6c67e8ed3956", func := "drover/droverlaw08.WireHead", spec := "wireHead", inPlace := ["internal/abi.NoEscape", "internal/bytealg.MakeNoZero"], named := ["drover/act.codes", "drover/act.kinds", "drover/match.codes", "drover/instr.order"], apart := false, laid := [("drover/act.kinds", laid_drover_act_kinds), ("drover/act.codes", laid_drover_act_codes), ("drover/instr.order", laid_drover_instr_order), ("drover/match.codes", laid_drover_match_codes)] }
def WireHeadSaid : Prop := wireHeadRow.holds Tryz.pinned (OpenSpec.ofChange wireHeadSpec)

/-- ITS FALSE NEIGHBOUR: 'it returns false'. Refute it at one input. -/
def wireHeadWrong : ChangeSpec := { name := "wireHead", fn := fun _ => fun
  | [d] => { results := [.lit (.bool false)], args := [d] }
  | _ => none }
def WireHeadWrongFalsely : Prop := wireHeadRow.holds Tryz.pinned (OpenSpec.ofChange wireHeadWrong)

/- THE SECOND FORM. 'bulk': how many values and letters a reading holds, each counted each time it is reached (what is shared counts as often as it is met; a slice's spare places count too). A statement '..UptoSaid' is the law's where the arguments, and the package variables that the reading takes, are together of bulk at most 1048576: NARROWER than '..Said'. Prove '..Said' where nothing that the law and all that it calls make is longer than what came in: it says more and counts as full. Else prove '..UptoSaid'. A law counts once. -/
mutual
def uptoBulk {H : Type} : DataW H → Nat
  | .lit (.string bytes) => bytes.length + 1
  | .lit _ => 1
  | .nil => 1
  | .ptr d => uptoBulk d + 1
  | .slice elems spare => uptoBulkAll elems + uptoBulkAll spare + 1
  | .agg parts => uptoBulkAll parts + 1
  | .iface _ d => uptoBulk d + 1
  | .map entries => uptoBulkEntries entries + 1
  | .held _ => 1
def uptoBulkAll {H : Type} : List (DataW H) → Nat
  | [] => 0
  | d :: r => uptoBulk d + uptoBulkAll r
def uptoBulkEntries {H : Type} : List (Lit × DataW H) → Nat
  | [] => 0
  | x :: r => uptoBulkEntry x + uptoBulkEntries r
def uptoBulkEntry {H : Type} : Lit × DataW H → Nat
  | (.string bytes, d) => bytes.length + uptoBulk d + 1
  | (_, d) => uptoBulk d + 1
 end
def uptoSmall : (H : Type) → List (DataW H) → Bool := fun _ ds => decide (uptoBulkAll ds ≤ 1048576)
def OpenSpec.upto (s : _root_.Go.ChangeSpec) : _root_.Go.OpenSpec := { _root_.Go.OpenSpec.ofChange s with cond := some uptoSmall }

/-- 'droverlaw08.WireEncodes', WHERE WHAT IT READS IS OF BULK AT MOST 1048576: true; the input reads as it did. -/
def wireEncodesUptoRow : OpenClaim := { program := "ytlcbfdiohcbpbaagreatdoor", sum := "22bd951d2c376153d43d78404a3496d3965fef5c5bb8aa7e62ba6c67e8ed3956", func := "drover/droverlaw08.WireEncodes", spec := "wireEncodes", inPlace := ["internal/abi.NoEscape", "internal/bytealg.MakeNoZero"], named := ["drover/act.codes", "drover/act.kinds", "drover/match.codes", "drover/instr.order"], apart := false, laid := [("drover/act.kinds", laid_drover_act_kinds), ("drover/act.codes", laid_drover_act_codes), ("drover/instr.order", laid_drover_instr_order), ("drover/match.codes", laid_drover_match_codes)], narrowed := true }
def WireEncodesUptoSaid : Prop := wireEncodesUptoRow.holds Tryz.pinned (OpenSpec.upto wireEncodesSpec)

/-- 'droverlaw08.WireDecodes', WHERE WHAT IT READS IS OF BULK AT MOST 1048576: true; the input reads as it did. -/
def wireDecodesUptoRow : OpenClaim := { program := "ytlcbfdiohcbpbaagreatdoor", sum := "22bd951d2c376153d43d78404a3496d3965fef5c5bb8aa7e62ba6c67e8ed3956", func := "drover/droverlaw08.WireDecodes", spec := "wireDecodes", inPlace := ["internal/abi.NoEscape", "internal/bytealg.MakeNoZero"], named := ["drover/act.codes", "drover/act.kinds", "drover/match.codes", "drover/instr.order"], apart := false, laid := [("drover/act.kinds", laid_drover_act_kinds), ("drover/act.codes", laid_drover_act_codes), ("drover/instr.order", laid_drover_instr_order), ("drover/match.codes", laid_drover_match_codes)], narrowed := true }
def WireDecodesUptoSaid : Prop := wireDecodesUptoRow.holds Tryz.pinned (OpenSpec.upto wireDecodesSpec)

/-- 'droverlaw08.WireBack', WHERE WHAT IT READS IS OF BULK AT MOST 1048576: true; the input reads as it did. -/
def wireBackUptoRow : OpenClaim := { program := "ytlcbfdiohcbpbaagreatdoor", sum := "22bd951d2c376153d43d78404a3496d3965fef5c5bb8aa7e62ba6c67e8ed3956", func := "drover/droverlaw08.WireBack", spec := "wireBack", inPlace := ["internal/abi.NoEscape", "internal/bytealg.MakeNoZero"], named := ["drover/act.codes", "drover/act.kinds", "drover/match.codes", "drover/instr.order"], apart := false, laid := [("drover/act.kinds", laid_drover_act_kinds), ("drover/act.codes", laid_drover_act_codes), ("drover/instr.order", laid_drover_instr_order), ("drover/match.codes", laid_drover_match_codes)], narrowed := true }
def WireBackUptoSaid : Prop := wireBackUptoRow.holds Tryz.pinned (OpenSpec.upto wireBackSpec)

/-- 'droverlaw08.WireShort', WHERE WHAT IT READS IS OF BULK AT MOST 1048576: true; the input reads as it did. -/
def wireShortUptoRow : OpenClaim := { program := "ytlcbfdiohcbpbaagreatdoor", sum := "22bd951d2c376153d43d78404a3496d3965fef5c5bb8aa7e62ba6c67e8ed3956", func := "drover/droverlaw08.WireShort", spec := "wireShort", inPlace := ["internal/abi.NoEscape", "internal/bytealg.MakeNoZero"], named := ["drover/act.codes", "drover/act.kinds", "drover/match.codes", "drover/instr.order"], apart := false, laid := [("drover/act.kinds", laid_drover_act_kinds), ("drover/act.codes", laid_drover_act_codes), ("drover/instr.order", laid_drover_instr_order), ("drover/match.codes", laid_drover_match_codes)], narrowed := true }
def WireShortUptoSaid : Prop := wireShortUptoRow.holds Tryz.pinned (OpenSpec.upto wireShortSpec)

/-- 'droverlaw08.WireHead', WHERE WHAT IT READS IS OF BULK AT MOST 1048576: true; the input reads as it did. -/
def wireHeadUptoRow : OpenClaim := { program := "ytlcbfdiohcbpbaagreatdoor", sum := "22bd951d2c376153d43d78404a3496d3965fef5c5bb8aa7e62ba6c67e8ed3956", func := "drover/droverlaw08.WireHead", spec := "wireHead", inPlace := ["internal/abi.NoEscape", "internal/bytealg.MakeNoZero"], named := ["drover/act.codes", "drover/act.kinds", "drover/match.codes", "drover/instr.order"], apart := false, laid := [("drover/act.kinds", laid_drover_act_kinds), ("drover/act.codes", laid_drover_act_codes), ("drover/instr.order", laid_drover_instr_order), ("drover/match.codes", laid_drover_match_codes)], narrowed := true }
def WireHeadUptoSaid : Prop := wireHeadUptoRow.holds Tryz.pinned (OpenSpec.upto wireHeadSpec)

end Rows
end Go.Proofs.YtlcbfdiohcbpbaaGreatDoor
