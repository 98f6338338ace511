/-
  NARROWER THAN 'FOR EVERY INPUT', by the rows' own cells (each row's printed sentence says how): InstrRight: laid · InstrEncodes: laid · InstrDecodes: laid · InstrBack: laid · InstrGoes: laid.
  DERIVED. THE GIVEN ROWS OF THIS SEAT. 5 by the template 'for every input the law returns true; each argument reads behind the call as it read before'; 0 by the template 'total and deterministic' (their statements: YtcbhkbiofmimbaaDoorTotals.lean).
  GIVEN WITH THE SEED: the statements are not yours to turn. If you find one false, say at which input.
  Laid BY PROGRAM, IN A SANDBOX (cutbox-rows.mjs): the forced cells as the released guide's own fill.sh prints them over the translation b898364c82934223… (all of the seat's roots in one cut). By AI agents, Wed Nov 11 2026. No macro, syntax, notation, axiom, sorry.
-/
import Derived.Test.YtcbhkbiofmimbaaDoorChecked
import GoSem.Claim
import GoSem.ClaimJoined
import GoSem.ClaimMapViews
import Derived.JoinedTies
import Derived.KernelRfl
namespace Go.Proofs.YtcbhkbiofmimbaaDoor
/- THE CELL 'sum', in the pinned program and in every row, IS THE sha256 OF THE DUMP (.gsa) THAT YtcbhkbiofmimbaaDoorProg.lean LOADS. Nothing in Lean hashes anything: it is a label: what it is worth is what the hold of that sum in a sandbox is worth. -/
noncomputable def Tryd.pinned : Pinned := { name := "ytcbhkbiofmimbaadoor", sum := "b898364c8293422377c79c681364f801f212919e02a27e291c9e253ad3e3e0d9", checked := Tryd.checked }
namespace Rows
def none {H : Type} : Left H := { results := [], args := [] }

/- WHAT THE LISTED PACKAGE-LEVEL VARIABLES READ AS WHEN THE CALL BEGINS. Each datum BY PROGRAM (the guide's laid-datum.mjs) off the statement by which the dump's own 'gosem.cut.vars' lays the variable. In a bare row this is a premise. The card (YtcbhkbiofmimbaaDoorCards.lean) ties it to the program's text. -/
def laid_drover_act_kinds {H : Type} : DataW H := .agg [.agg [.lit (.int .i64 1), .lit (.int .i64 0), .lit (.int .i64 16)], .agg [.lit (.int .i64 2), .lit (.int .i64 22), .lit (.int .i64 8)], .agg [.lit (.int .i64 3), .lit (.int .i64 17), .lit (.int .i64 8)], .agg [.lit (.int .i64 4), .lit (.int .i64 18), .lit (.int .i64 8)], .agg [.lit (.int .i64 5), .lit (.int .i64 25), .lit (.int .i64 16)]]
def laid_drover_act_codes {H : Type} : DataW H := .agg [.agg [.lit (.int .i64 3), .lit (.int .i64 6)], .agg [.lit (.int .i64 5), .lit (.int .i64 11)], .agg [.lit (.int .i64 6), .lit (.int .i64 12)], .agg [.lit (.int .i64 8), .lit (.int .i64 13)], .agg [.lit (.int .i64 9), .lit (.int .i64 14)]]
def laid_drover_instr_order {H : Type} : DataW H := .agg [.lit (.int .i64 6), .lit (.int .i64 4), .lit (.int .i64 5), .lit (.int .i64 3), .lit (.int .i64 2), .lit (.int .i64 1)]

/-- 'droverlaw07.InstrRight': WHATEVER THE INPUT: true; the input reads as it did. -/
def instrRightSpec : ChangeSpec := { name := "instrRight", fn := fun _ => fun
  | [d] => { results := [.lit (.bool true)], args := [d] }
  | _ => none }
def instrRightRow : OpenClaim := { program := "ytcbhkbiofmimbaadoor", sum := "b898364c8293422377c79c681364f801f212919e02a27e291c9e253ad3e3e0d9", func := "drover/droverlaw07.InstrRight", spec := "instrRight", inPlace := ["internal/abi.NoEscape", "internal/bytealg.MakeNoZero"], named := ["drover/act.codes", "drover/act.kinds", "drover/instr.order"], apart := false, laid := [("drover/act.kinds", laid_drover_act_kinds), ("drover/act.codes", laid_drover_act_codes), ("drover/instr.order", laid_drover_instr_order)] }
def InstrRightSaid : Prop := instrRightRow.holds Tryd.pinned (OpenSpec.ofChange instrRightSpec)

/-- ITS FALSE NEIGHBOUR: 'it returns false'. Refute it at one input. -/
def instrRightWrong : ChangeSpec := { name := "instrRight", fn := fun _ => fun
  | [d] => { results := [.lit (.bool false)], args := [d] }
  | _ => none }
def InstrRightWrongFalsely : Prop := instrRightRow.holds Tryd.pinned (OpenSpec.ofChange instrRightWrong)

/-- 'droverlaw07.InstrEncodes': WHATEVER THE INPUT: true; the input reads as it did. -/
def instrEncodesSpec : ChangeSpec := { name := "instrEncodes", fn := fun _ => fun
  | [d] => { results := [.lit (.bool true)], args := [d] }
  | _ => none }
def instrEncodesRow : OpenClaim := { program := "ytcbhkbiofmimbaadoor", sum := "b898364c8293422377c79c681364f801f212919e02a27e291c9e253ad3e3e0d9", func := "drover/droverlaw07.InstrEncodes", spec := "instrEncodes", inPlace := ["internal/abi.NoEscape", "internal/bytealg.MakeNoZero"], named := ["drover/instr.order", "drover/act.codes", "drover/act.kinds"], apart := false, laid := [("drover/act.kinds", laid_drover_act_kinds), ("drover/act.codes", laid_drover_act_codes), ("drover/instr.order", laid_drover_instr_order)] }
def InstrEncodesSaid : Prop := instrEncodesRow.holds Tryd.pinned (OpenSpec.ofChange instrEncodesSpec)

/-- ITS FALSE NEIGHBOUR: 'it returns false'. Refute it at one input. -/
def instrEncodesWrong : ChangeSpec := { name := "instrEncodes", fn := fun _ => fun
  | [d] => { results := [.lit (.bool false)], args := [d] }
  | _ => none }
def InstrEncodesWrongFalsely : Prop := instrEncodesRow.holds Tryd.pinned (OpenSpec.ofChange instrEncodesWrong)

/-- 'droverlaw07.InstrDecodes': WHATEVER THE INPUT: true; the input reads as it did. -/
def instrDecodesSpec : ChangeSpec := { name := "instrDecodes", fn := fun _ => fun
  | [d1, d2] => { results := [.lit (.bool true)], args := [d1, d2] }
  | _ => none }
def instrDecodesRow : OpenClaim := { program := "ytcbhkbiofmimbaadoor", sum := "b898364c8293422377c79c681364f801f212919e02a27e291c9e253ad3e3e0d9", func := "drover/droverlaw07.InstrDecodes", spec := "instrDecodes", inPlace := ["internal/abi.NoEscape", "internal/bytealg.MakeNoZero"], named := ["drover/instr.order", "drover/act.codes", "drover/act.kinds"], apart := false, laid := [("drover/act.kinds", laid_drover_act_kinds), ("drover/act.codes", laid_drover_act_codes), ("drover/instr.order", laid_drover_instr_order)] }
def InstrDecodesSaid : Prop := instrDecodesRow.holds Tryd.pinned (OpenSpec.ofChange instrDecodesSpec)

/-- ITS FALSE NEIGHBOUR: 'it returns false'. Refute it at one input. -/
def instrDecodesWrong : ChangeSpec := { name := "instrDecodes", fn := fun _ => fun
  | [d1, d2] => { results := [.lit (.bool false)], args := [d1, d2] }
  | _ => none }
def InstrDecodesWrongFalsely : Prop := instrDecodesRow.holds Tryd.pinned (OpenSpec.ofChange instrDecodesWrong)

/-- 'droverlaw07.InstrBack': WHATEVER THE INPUT: true; the input reads as it did. -/
def instrBackSpec : ChangeSpec := { name := "instrBack", fn := fun _ => fun
  | [d1, d2, d3] => { results := [.lit (.bool true)], args := [d1, d2, d3] }
  | _ => none }
def instrBackRow : OpenClaim := { program := "ytcbhkbiofmimbaadoor", sum := "b898364c8293422377c79c681364f801f212919e02a27e291c9e253ad3e3e0d9", func := "drover/droverlaw07.InstrBack", spec := "instrBack", inPlace := ["internal/abi.NoEscape", "internal/bytealg.MakeNoZero"], named := ["drover/instr.order", "drover/act.codes", "drover/act.kinds"], apart := false, laid := [("drover/act.kinds", laid_drover_act_kinds), ("drover/act.codes", laid_drover_act_codes), ("drover/instr.order", laid_drover_instr_order)] }
def InstrBackSaid : Prop := instrBackRow.holds Tryd.pinned (OpenSpec.ofChange instrBackSpec)

/-- ITS FALSE NEIGHBOUR: 'it returns false'. Refute it at one input. -/
def instrBackWrong : ChangeSpec := { name := "instrBack", fn := fun _ => fun
  | [d1, d2, d3] => { results := [.lit (.bool false)], args := [d1, d2, d3] }
  | _ => none }
def InstrBackWrongFalsely : Prop := instrBackRow.holds Tryd.pinned (OpenSpec.ofChange instrBackWrong)

/-- 'droverlaw07.InstrGoes': WHATEVER THE INPUT: true; the input reads as it did. -/
def instrGoesSpec : ChangeSpec := { name := "instrGoes", fn := fun _ => fun
  | [d1, d2] => { results := [.lit (.bool true)], args := [d1, d2] }
  | _ => none }
def instrGoesRow : OpenClaim := { program := "ytcbhkbiofmimbaadoor", sum := "b898364c8293422377c79c681364f801f212919e02a27e291c9e253ad3e3e0d9", func := "drover/droverlaw07.InstrGoes", spec := "instrGoes", inPlace := ["internal/abi.NoEscape", "internal/bytealg.MakeNoZero"], named := ["drover/act.codes", "drover/act.kinds", "drover/instr.order"], apart := false, laid := [("drover/act.kinds", laid_drover_act_kinds), ("drover/act.codes", laid_drover_act_codes), ("drover/instr.order", laid_drover_instr_order)] }
def InstrGoesSaid : Prop := instrGoesRow.holds Tryd.pinned (OpenSpec.ofChange instrGoesSpec)

/-- ITS FALSE NEIGHBOUR: 'it returns false'. Refute it at one input. -/
def instrGoesWrong : ChangeSpec := { name := "instrGoes", fn := fun _ => fun
  | [d1, d2] => { results := [.lit (.bool false)], args := [d1, d2] }
  | _ => none }
def InstrGoesWrongFalsely : Prop := instrGoesRow.holds Tryd.pinned (OpenSpec.ofChange instrGoesWrong)

/- THE SECOND FORM. 'bulk': how many values and letters a reading holds, each counted each time it is reached (what is shared counts as often as it is met; a slice's spare places count too). A statement '..UptoSaid' is the law's where the arguments, and the package variables that the reading takes, are together of bulk at most 1048576: NARROWER than '..Said'. Prove '..Said' where nothing that the law and all that it calls make is longer than what came in: it says more and counts as full. Else prove '..UptoSaid'. A law counts once. -/
mutual
def uptoBulk {H : Type} : DataW H → Nat
  | .lit (.string bytes) => bytes.length + 1
  | .lit _ => 1
  | .nil => 1
  | .ptr d => uptoBulk d + 1
  | .slice elems spare => uptoBulkAll elems + uptoBulkAll spare + 1
  | .agg parts => uptoBulkAll parts + 1
  | .iface _ d => uptoBulk d + 1
  | .map entries => uptoBulkEntries entries + 1
  | .held _ => 1
def uptoBulkAll {H : Type} : List (DataW H) → Nat
  | [] => 0
  | d :: r => uptoBulk d + uptoBulkAll r
def uptoBulkEntries {H : Type} : List (Lit × DataW H) → Nat
  | [] => 0
  | x :: r => uptoBulkEntry x + uptoBulkEntries r
def uptoBulkEntry {H : Type} : Lit × DataW H → Nat
  | (.string bytes, d) => bytes.length + uptoBulk d + 1
  | (_, d) => uptoBulk d + 1
 end
def uptoSmall : (H : Type) → List (DataW H) → Bool := fun _ ds => decide (uptoBulkAll ds ≤ 1048576)
def OpenSpec.upto (s : _root_.Go.ChangeSpec) : _root_.Go.OpenSpec := { _root_.Go.OpenSpec.ofChange s with cond := some uptoSmall }

/-- 'droverlaw07.InstrRight', WHERE WHAT IT READS IS OF BULK AT MOST 1048576: true; the input reads as it did. -/
def instrRightUptoRow : OpenClaim := { program := "ytcbhkbiofmimbaadoor", sum := "b898364c8293422377c79c681364f801f212919e02a27e291c9e253ad3e3e0d9", func := "drover/droverlaw07.InstrRight", spec := "instrRight", inPlace := ["internal/abi.NoEscape", "internal/bytealg.MakeNoZero"], named := ["drover/act.codes", "drover/act.kinds", "drover/instr.order"], apart := false, laid := [("drover/act.kinds", laid_drover_act_kinds), ("drover/act.codes", laid_drover_act_codes), ("drover/instr.order", laid_drover_instr_order)], narrowed := true }
def InstrRightUptoSaid : Prop := instrRightUptoRow.holds Tryd.pinned (OpenSpec.upto instrRightSpec)

/-- 'droverlaw07.InstrEncodes', WHERE WHAT IT READS IS OF BULK AT MOST 1048576: true; the input reads as it did. -/
def instrEncodesUptoRow : OpenClaim := { program := "ytcbhkbiofmimbaadoor", sum := "b898364c8293422377c79c681364f801f212919e02a27e291c9e253ad3e3e0d9", func := "drover/droverlaw07.InstrEncodes", spec := "instrEncodes", inPlace := ["internal/abi.NoEscape", "internal/bytealg.MakeNoZero"], named := ["drover/instr.order", "drover/act.codes", "drover/act.kinds"], apart := false, laid := [("drover/act.kinds", laid_drover_act_kinds), ("drover/act.codes", laid_drover_act_codes), ("drover/instr.order", laid_drover_instr_order)], narrowed := true }
def InstrEncodesUptoSaid : Prop := instrEncodesUptoRow.holds Tryd.pinned (OpenSpec.upto instrEncodesSpec)

/-- 'droverlaw07.InstrDecodes', WHERE WHAT IT READS IS OF BULK AT MOST 1048576: true; the input reads as it did. -/
def instrDecodesUptoRow : OpenClaim := { program := "ytcbhkbiofmimbaadoor", sum := "b898364c8293422377c79c681364f801f212919e02a27e291c9e253ad3e3e0d9", func := "drover/droverlaw07.InstrDecodes", spec := "instrDecodes", inPlace := ["internal/abi.NoEscape", "internal/bytealg.MakeNoZero"], named := ["drover/instr.order", "drover/act.codes", "drover/act.kinds"], apart := false, laid := [("drover/act.kinds", laid_drover_act_kinds), ("drover/act.codes", laid_drover_act_codes), ("drover/instr.order", laid_drover_instr_order)], narrowed := true }
def InstrDecodesUptoSaid : Prop := instrDecodesUptoRow.holds Tryd.pinned (OpenSpec.upto instrDecodesSpec)

/-- 'droverlaw07.InstrBack', WHERE WHAT IT READS IS OF BULK AT MOST 1048576: true; the input reads as it did. -/
def instrBackUptoRow : OpenClaim := { program := "ytcbhkbiofmimbaadoor", sum := "b898364c8293422377c79c681364f801f212919e02a27e291c9e253ad3e3e0d9", func := "drover/droverlaw07.InstrBack", spec := "instrBack", inPlace := ["internal/abi.NoEscape", "internal/bytealg.MakeNoZero"], named := ["drover/instr.order", "drover/act.codes", "drover/act.kinds"], apart := false, laid := [("drover/act.kinds", laid_drover_act_kinds), ("drover/act.codes", laid_drover_act_codes), ("drover/instr.order", laid_drover_instr_order)], narrowed := true }
def InstrBackUptoSaid : Prop := instrBackUptoRow.holds Tryd.pinned (OpenSpec.upto instrBackSpec)

/-- 'droverlaw07.InstrGoes', WHERE WHAT IT READS IS OF BULK AT MOST 1048576: true; the input reads as it did. -/
def instrGoesUptoRow : OpenClaim := { program := "ytcbhkbiofmimbaadoor", sum := "b898364c8293422377c79c681364f801f212919e02a27e291c9e253ad3e3e0d9", func := "drover/droverlaw07.InstrGoes", spec := "instrGoes", inPlace := ["internal/abi.NoEscape", "internal/bytealg.MakeNoZero"], named := ["drover/act.codes", "drover/act.kinds", "drover/instr.order"], apart := false, laid := [("drover/act.kinds", laid_drover_act_kinds), ("drover/act.codes", laid_drover_act_codes), ("drover/instr.order", laid_drover_instr_order)], narrowed := true }
def InstrGoesUptoSaid : Prop := instrGoesUptoRow.holds Tryd.pinned (OpenSpec.upto instrGoesSpec)

end Rows
end Go.Proofs.YtcbhkbiofmimbaaDoor
