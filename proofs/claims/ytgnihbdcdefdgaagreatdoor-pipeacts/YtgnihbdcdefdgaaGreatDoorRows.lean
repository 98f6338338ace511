/-
  NARROWER THAN 'FOR EVERY INPUT', by the rows' own cells (each row's printed sentence says how): PipeRuns: laid · PipeActs: laid · PipePorts: laid · PipeStays: laid · PipeNone: laid.
  DERIVED. THE GIVEN ROWS OF THIS SEAT. 5 by the template 'for every input the law returns true; each argument reads behind the call as it read before'; 0 by the template 'total and deterministic' (their statements: YtgnihbdcdefdgaaGreatDoorTotals.lean).
  GIVEN WITH THE SEED: the statements are not yours to turn. If you find one false, say at which input.
  Laid BY PROGRAM, IN A SANDBOX (cutbox-rows.mjs): the forced cells as the released guide's own fill.sh prints them over the translation 621323c2ce9261ab… (all of the seat's roots in one cut). By AI agents, Wed Nov 11 2026. No macro, syntax, notation, axiom, sorry.
-/
import Derived.Test.YtgnihbdcdefdgaaGreatDoorChecked
import GoSem.Claim
import GoSem.ClaimJoined
import GoSem.ClaimMapViews
import Derived.JoinedTies
import Derived.KernelRfl
namespace Go.Proofs.YtgnihbdcdefdgaaGreatDoor
/- THE CELL 'sum', in the pinned program and in every row, IS THE sha256 OF THE DUMP (.gsa) THAT YtgnihbdcdefdgaaGreatDoorProg.lean LOADS. Nothing in Lean hashes anything: it is a label: what it is worth is what the hold of that sum in a sandbox is worth. -/
noncomputable def Tryz.pinned : Pinned := { name := "ytgnihbdcdefdgaagreatdoor", sum := "621323c2ce9261ab3a7b26c850799c358308a332cf11d96f9753e4b42d29c1db", checked := Tryz.checked }
namespace Rows
def none {H : Type} : Left H := { results := [], args := [] }

/- WHAT THE LISTED PACKAGE-LEVEL VARIABLES READ AS WHEN THE CALL BEGINS. Each datum BY PROGRAM (the guide's laid-datum.mjs) off the statement by which the dump's own 'gosem.cut.vars' lays the variable. In a bare row this is a premise. The card (YtgnihbdcdefdgaaGreatDoorCards.lean) ties it to the program's text. -/
def laid_drover_act_kinds {H : Type} : DataW H := .agg [.agg [.lit (.int .i64 1), .lit (.int .i64 0), .lit (.int .i64 16)], .agg [.lit (.int .i64 2), .lit (.int .i64 22), .lit (.int .i64 8)], .agg [.lit (.int .i64 3), .lit (.int .i64 17), .lit (.int .i64 8)], .agg [.lit (.int .i64 4), .lit (.int .i64 18), .lit (.int .i64 8)], .agg [.lit (.int .i64 5), .lit (.int .i64 25), .lit (.int .i64 16)]]
def laid_drover_act_codes {H : Type} : DataW H := .agg [.agg [.lit (.int .i64 3), .lit (.int .i64 6)], .agg [.lit (.int .i64 5), .lit (.int .i64 11)], .agg [.lit (.int .i64 6), .lit (.int .i64 12)], .agg [.lit (.int .i64 8), .lit (.int .i64 13)], .agg [.lit (.int .i64 9), .lit (.int .i64 14)]]

/-- 'droverlaw12.PipeRuns': WHATEVER THE INPUT: true; the input reads as it did. -/
def pipeRunsSpec : ChangeSpec := { name := "pipeRuns", fn := fun _ => fun
  | [d1, d2, d3] => { results := [.lit (.bool true)], args := [d1, d2, d3] }
  | _ => none }
def pipeRunsRow : OpenClaim := { program := "ytgnihbdcdefdgaagreatdoor", sum := "621323c2ce9261ab3a7b26c850799c358308a332cf11d96f9753e4b42d29c1db", func := "drover/droverlaw12.PipeRuns", spec := "pipeRuns", inPlace := ["internal/abi.NoEscape", "internal/bytealg.MakeNoZero", "slices.overlaps[drover/api.Entry]"], unfollowed := true, recurses := true, named := ["drover/act.codes", "drover/act.kinds"], apart := false, laid := [("drover/act.kinds", laid_drover_act_kinds), ("drover/act.codes", laid_drover_act_codes)] }
def PipeRunsSaid : Prop := pipeRunsRow.holds Tryz.pinned (OpenSpec.ofChange pipeRunsSpec)

/-- ITS FALSE NEIGHBOUR: 'it returns false'. Refute it at one input. -/
def pipeRunsWrong : ChangeSpec := { name := "pipeRuns", fn := fun _ => fun
  | [d1, d2, d3] => { results := [.lit (.bool false)], args := [d1, d2, d3] }
  | _ => none }
def PipeRunsWrongFalsely : Prop := pipeRunsRow.holds Tryz.pinned (OpenSpec.ofChange pipeRunsWrong)

/-- 'droverlaw12.PipeActs': WHATEVER THE INPUT: true; the input reads as it did. -/
def pipeActsSpec : ChangeSpec := { name := "pipeActs", fn := fun _ => fun
  | [d1, d2, d3] => { results := [.lit (.bool true)], args := [d1, d2, d3] }
  | _ => none }
def pipeActsRow : OpenClaim := { program := "ytgnihbdcdefdgaagreatdoor", sum := "621323c2ce9261ab3a7b26c850799c358308a332cf11d96f9753e4b42d29c1db", func := "drover/droverlaw12.PipeActs", spec := "pipeActs", inPlace := ["internal/abi.NoEscape", "internal/bytealg.MakeNoZero", "slices.overlaps[drover/api.Entry]"], unfollowed := true, recurses := true, named := ["drover/act.codes", "drover/act.kinds"], apart := false, laid := [("drover/act.kinds", laid_drover_act_kinds), ("drover/act.codes", laid_drover_act_codes)] }
def PipeActsSaid : Prop := pipeActsRow.holds Tryz.pinned (OpenSpec.ofChange pipeActsSpec)

/-- ITS FALSE NEIGHBOUR: 'it returns false'. Refute it at one input. -/
def pipeActsWrong : ChangeSpec := { name := "pipeActs", fn := fun _ => fun
  | [d1, d2, d3] => { results := [.lit (.bool false)], args := [d1, d2, d3] }
  | _ => none }
def PipeActsWrongFalsely : Prop := pipeActsRow.holds Tryz.pinned (OpenSpec.ofChange pipeActsWrong)

/-- 'droverlaw12.PipePorts': WHATEVER THE INPUT: true; the input reads as it did. -/
def pipePortsSpec : ChangeSpec := { name := "pipePorts", fn := fun _ => fun
  | [d1, d2, d3] => { results := [.lit (.bool true)], args := [d1, d2, d3] }
  | _ => none }
def pipePortsRow : OpenClaim := { program := "ytgnihbdcdefdgaagreatdoor", sum := "621323c2ce9261ab3a7b26c850799c358308a332cf11d96f9753e4b42d29c1db", func := "drover/droverlaw12.PipePorts", spec := "pipePorts", inPlace := ["internal/abi.NoEscape", "internal/bytealg.MakeNoZero", "slices.overlaps[drover/api.Entry]"], unfollowed := true, recurses := true, named := ["drover/act.codes", "drover/act.kinds"], apart := false, laid := [("drover/act.kinds", laid_drover_act_kinds), ("drover/act.codes", laid_drover_act_codes)] }
def PipePortsSaid : Prop := pipePortsRow.holds Tryz.pinned (OpenSpec.ofChange pipePortsSpec)

/-- ITS FALSE NEIGHBOUR: 'it returns false'. Refute it at one input. -/
def pipePortsWrong : ChangeSpec := { name := "pipePorts", fn := fun _ => fun
  | [d1, d2, d3] => { results := [.lit (.bool false)], args := [d1, d2, d3] }
  | _ => none }
def PipePortsWrongFalsely : Prop := pipePortsRow.holds Tryz.pinned (OpenSpec.ofChange pipePortsWrong)

/-- 'droverlaw12.PipeStays': WHATEVER THE INPUT: true; the input reads as it did. -/
def pipeStaysSpec : ChangeSpec := { name := "pipeStays", fn := fun _ => fun
  | [d1, d2, d3] => { results := [.lit (.bool true)], args := [d1, d2, d3] }
  | _ => none }
def pipeStaysRow : OpenClaim := { program := "ytgnihbdcdefdgaagreatdoor", sum := "621323c2ce9261ab3a7b26c850799c358308a332cf11d96f9753e4b42d29c1db", func := "drover/droverlaw12.PipeStays", spec := "pipeStays", inPlace := ["internal/abi.NoEscape", "internal/bytealg.MakeNoZero", "slices.overlaps[drover/api.Entry]"], unfollowed := true, recurses := true, named := ["drover/act.codes", "drover/act.kinds"], apart := false, laid := [("drover/act.kinds", laid_drover_act_kinds), ("drover/act.codes", laid_drover_act_codes)] }
def PipeStaysSaid : Prop := pipeStaysRow.holds Tryz.pinned (OpenSpec.ofChange pipeStaysSpec)

/-- ITS FALSE NEIGHBOUR: 'it returns false'. Refute it at one input. -/
def pipeStaysWrong : ChangeSpec := { name := "pipeStays", fn := fun _ => fun
  | [d1, d2, d3] => { results := [.lit (.bool false)], args := [d1, d2, d3] }
  | _ => none }
def PipeStaysWrongFalsely : Prop := pipeStaysRow.holds Tryz.pinned (OpenSpec.ofChange pipeStaysWrong)

/-- 'droverlaw12.PipeNone': WHATEVER THE INPUT: true; the input reads as it did. -/
def pipeNoneSpec : ChangeSpec := { name := "pipeNone", fn := fun _ => fun
  | [d1, d2, d3] => { results := [.lit (.bool true)], args := [d1, d2, d3] }
  | _ => none }
def pipeNoneRow : OpenClaim := { program := "ytgnihbdcdefdgaagreatdoor", sum := "621323c2ce9261ab3a7b26c850799c358308a332cf11d96f9753e4b42d29c1db", func := "drover/droverlaw12.PipeNone", spec := "pipeNone", inPlace := ["internal/abi.NoEscape", "internal/bytealg.MakeNoZero", "slices.overlaps[drover/api.Entry]"], unfollowed := true, recurses := true, named := ["drover/act.codes", "drover/act.kinds"], apart := false, laid := [("drover/act.kinds", laid_drover_act_kinds), ("drover/act.codes", laid_drover_act_codes)] }
def PipeNoneSaid : Prop := pipeNoneRow.holds Tryz.pinned (OpenSpec.ofChange pipeNoneSpec)

/-- ITS FALSE NEIGHBOUR: 'it returns false'. Refute it at one input. -/
def pipeNoneWrong : ChangeSpec := { name := "pipeNone", fn := fun _ => fun
  | [d1, d2, d3] => { results := [.lit (.bool false)], args := [d1, d2, d3] }
  | _ => none }
def PipeNoneWrongFalsely : Prop := pipeNoneRow.holds Tryz.pinned (OpenSpec.ofChange pipeNoneWrong)

/- THE SECOND FORM. 'bulk': how many values and letters a reading holds, each counted each time it is reached (what is shared counts as often as it is met; a slice's spare places count too). A statement '..UptoSaid' is the law's where the arguments, and the package variables that the reading takes, are together of bulk at most 1048576: NARROWER than '..Said'. Prove '..Said' where nothing that the law and all that it calls make is longer than what came in: it says more and counts as full. Else prove '..UptoSaid'. A law counts once. -/
mutual
def uptoBulk {H : Type} : DataW H → Nat
  | .lit (.string bytes) => bytes.length + 1
  | .lit _ => 1
  | .nil => 1
  | .ptr d => uptoBulk d + 1
  | .slice elems spare => uptoBulkAll elems + uptoBulkAll spare + 1
  | .agg parts => uptoBulkAll parts + 1
  | .iface _ d => uptoBulk d + 1
  | .map entries => uptoBulkEntries entries + 1
  | .held _ => 1
def uptoBulkAll {H : Type} : List (DataW H) → Nat
  | [] => 0
  | d :: r => uptoBulk d + uptoBulkAll r
def uptoBulkEntries {H : Type} : List (Lit × DataW H) → Nat
  | [] => 0
  | x :: r => uptoBulkEntry x + uptoBulkEntries r
def uptoBulkEntry {H : Type} : Lit × DataW H → Nat
  | (.string bytes, d) => bytes.length + uptoBulk d + 1
  | (_, d) => uptoBulk d + 1
 end
def uptoSmall : (H : Type) → List (DataW H) → Bool := fun _ ds => decide (uptoBulkAll ds ≤ 1048576)
def OpenSpec.upto (s : _root_.Go.ChangeSpec) : _root_.Go.OpenSpec := { _root_.Go.OpenSpec.ofChange s with cond := some uptoSmall }

/-- 'droverlaw12.PipeRuns', WHERE WHAT IT READS IS OF BULK AT MOST 1048576: true; the input reads as it did. -/
def pipeRunsUptoRow : OpenClaim := { program := "ytgnihbdcdefdgaagreatdoor", sum := "621323c2ce9261ab3a7b26c850799c358308a332cf11d96f9753e4b42d29c1db", func := "drover/droverlaw12.PipeRuns", spec := "pipeRuns", inPlace := ["internal/abi.NoEscape", "internal/bytealg.MakeNoZero", "slices.overlaps[drover/api.Entry]"], unfollowed := true, recurses := true, named := ["drover/act.codes", "drover/act.kinds"], apart := false, laid := [("drover/act.kinds", laid_drover_act_kinds), ("drover/act.codes", laid_drover_act_codes)], narrowed := true }
def PipeRunsUptoSaid : Prop := pipeRunsUptoRow.holds Tryz.pinned (OpenSpec.upto pipeRunsSpec)

/-- 'droverlaw12.PipeActs', WHERE WHAT IT READS IS OF BULK AT MOST 1048576: true; the input reads as it did. -/
def pipeActsUptoRow : OpenClaim := { program := "ytgnihbdcdefdgaagreatdoor", sum := "621323c2ce9261ab3a7b26c850799c358308a332cf11d96f9753e4b42d29c1db", func := "drover/droverlaw12.PipeActs", spec := "pipeActs", inPlace := ["internal/abi.NoEscape", "internal/bytealg.MakeNoZero", "slices.overlaps[drover/api.Entry]"], unfollowed := true, recurses := true, named := ["drover/act.codes", "drover/act.kinds"], apart := false, laid := [("drover/act.kinds", laid_drover_act_kinds), ("drover/act.codes", laid_drover_act_codes)], narrowed := true }
def PipeActsUptoSaid : Prop := pipeActsUptoRow.holds Tryz.pinned (OpenSpec.upto pipeActsSpec)

/-- 'droverlaw12.PipePorts', WHERE WHAT IT READS IS OF BULK AT MOST 1048576: true; the input reads as it did. -/
def pipePortsUptoRow : OpenClaim := { program := "ytgnihbdcdefdgaagreatdoor", sum := "621323c2ce9261ab3a7b26c850799c358308a332cf11d96f9753e4b42d29c1db", func := "drover/droverlaw12.PipePorts", spec := "pipePorts", inPlace := ["internal/abi.NoEscape", "internal/bytealg.MakeNoZero", "slices.overlaps[drover/api.Entry]"], unfollowed := true, recurses := true, named := ["drover/act.codes", "drover/act.kinds"], apart := false, laid := [("drover/act.kinds", laid_drover_act_kinds), ("drover/act.codes", laid_drover_act_codes)], narrowed := true }
def PipePortsUptoSaid : Prop := pipePortsUptoRow.holds Tryz.pinned (OpenSpec.upto pipePortsSpec)

/-- 'droverlaw12.PipeStays', WHERE WHAT IT READS IS OF BULK AT MOST 1048576: true; the input reads as it did. -/
def pipeStaysUptoRow : OpenClaim := { program := "ytgnihbdcdefdgaagreatdoor", sum := "621323c2ce9261ab3a7b26c850799c358308a332cf11d96f9753e4b42d29c1db", func := "drover/droverlaw12.PipeStays", spec := "pipeStays", inPlace := ["internal/abi.NoEscape", "internal/bytealg.MakeNoZero", "slices.overlaps[drover/api.Entry]"], unfollowed := true, recurses := true, named := ["drover/act.codes", "drover/act.kinds"], apart := false, laid := [("drover/act.kinds", laid_drover_act_kinds), ("drover/act.codes", laid_drover_act_codes)], narrowed := true }
def PipeStaysUptoSaid : Prop := pipeStaysUptoRow.holds Tryz.pinned (OpenSpec.upto pipeStaysSpec)

/-- 'droverlaw12.PipeNone', WHERE WHAT IT READS IS OF BULK AT MOST 1048576: true; the input reads as it did. -/
def pipeNoneUptoRow : OpenClaim := { program := "ytgnihbdcdefdgaagreatdoor", sum := "621323c2ce9261ab3a7b26c850799c358308a332cf11d96f9753e4b42d29c1db", func := "drover/droverlaw12.PipeNone", spec := "pipeNone", inPlace := ["internal/abi.NoEscape", "internal/bytealg.MakeNoZero", "slices.overlaps[drover/api.Entry]"], unfollowed := true, recurses := true, named := ["drover/act.codes", "drover/act.kinds"], apart := false, laid := [("drover/act.kinds", laid_drover_act_kinds), ("drover/act.codes", laid_drover_act_codes)], narrowed := true }
def PipeNoneUptoSaid : Prop := pipeNoneUptoRow.holds Tryz.pinned (OpenSpec.upto pipeNoneSpec)

end Rows
end Go.Proofs.YtgnihbdcdefdgaaGreatDoor
