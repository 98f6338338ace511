/-
  NARROWER THAN 'FOR EVERY INPUT', by the rows' own cells (each row's printed sentence says how): TableLooks: laid · TableOnce: laid · TableClash: laid · TableNil: laid.
  DERIVED. THE GIVEN ROWS OF THIS SEAT. 4 by the template 'for every input the law returns true; each argument reads behind the call as it read before'; 0 by the template 'total and deterministic' (their statements: YtjjfhibkcngphaaDoorTotals.lean).
  GIVEN WITH THE SEED: the statements are not yours to turn. If you find one false, say at which input.
  Laid BY PROGRAM, IN A SANDBOX (cutbox-rows.mjs): the forced cells as the released guide's own fill.sh prints them over the translation 95865535f79589e4… (all of the seat's roots in one cut). By AI agents, Wed Nov 11 2026. No macro, syntax, notation, axiom, sorry.
-/
import Derived.Test.YtjjfhibkcngphaaDoorChecked
import GoSem.Claim
import GoSem.ClaimJoined
import GoSem.ClaimMapViews
import Derived.JoinedTies
import Derived.KernelRfl
namespace Go.Proofs.YtjjfhibkcngphaaDoor
/- THE CELL 'sum', in the pinned program and in every row, IS THE sha256 OF THE DUMP (.gsa) THAT YtjjfhibkcngphaaDoorProg.lean LOADS. Nothing in Lean hashes anything: it is a label: what it is worth is what the hold of that sum in a sandbox is worth. -/
noncomputable def Tryd.pinned : Pinned := { name := "ytjjfhibkcngphaadoor", sum := "95865535f79589e4b6462f7ba65aa7e464069b4c4e2bc4eface601fb87064d94", checked := Tryd.checked }
namespace Rows
def none {H : Type} : Left H := { results := [], args := [] }

/- WHAT THE LISTED PACKAGE-LEVEL VARIABLES READ AS WHEN THE CALL BEGINS. Each datum BY PROGRAM (the guide's laid-datum.mjs) off the statement by which the dump's own 'gosem.cut.vars' lays the variable. In a bare row this is a premise. The card (YtjjfhibkcngphaaDoorCards.lean) ties it to the program's text. -/
def laid_drover_act_kinds {H : Type} : DataW H := .agg [.agg [.lit (.int .i64 1), .lit (.int .i64 0), .lit (.int .i64 16)], .agg [.lit (.int .i64 2), .lit (.int .i64 22), .lit (.int .i64 8)], .agg [.lit (.int .i64 3), .lit (.int .i64 17), .lit (.int .i64 8)], .agg [.lit (.int .i64 4), .lit (.int .i64 18), .lit (.int .i64 8)], .agg [.lit (.int .i64 5), .lit (.int .i64 25), .lit (.int .i64 16)]]
def laid_drover_act_codes {H : Type} : DataW H := .agg [.agg [.lit (.int .i64 3), .lit (.int .i64 6)], .agg [.lit (.int .i64 5), .lit (.int .i64 11)], .agg [.lit (.int .i64 6), .lit (.int .i64 12)], .agg [.lit (.int .i64 8), .lit (.int .i64 13)], .agg [.lit (.int .i64 9), .lit (.int .i64 14)]]

/-- 'droverlaw11.TableLooks': WHATEVER THE INPUT: true; the input reads as it did. -/
def tableLooksSpec : ChangeSpec := { name := "tableLooks", fn := fun _ => fun
  | [d1, d2, d3] => { results := [.lit (.bool true)], args := [d1, d2, d3] }
  | _ => none }
def tableLooksRow : OpenClaim := { program := "ytjjfhibkcngphaadoor", sum := "95865535f79589e4b6462f7ba65aa7e464069b4c4e2bc4eface601fb87064d94", func := "drover/droverlaw11.TableLooks", spec := "tableLooks", inPlace := ["internal/abi.NoEscape", "internal/bytealg.MakeNoZero", "slices.overlaps[drover/api.Entry]"], unfollowed := true, recurses := true, named := ["drover/act.codes", "drover/act.kinds"], apart := false, laid := [("drover/act.kinds", laid_drover_act_kinds), ("drover/act.codes", laid_drover_act_codes)] }
def TableLooksSaid : Prop := tableLooksRow.holds Tryd.pinned (OpenSpec.ofChange tableLooksSpec)

/-- ITS FALSE NEIGHBOUR: 'it returns false'. Refute it at one input. -/
def tableLooksWrong : ChangeSpec := { name := "tableLooks", fn := fun _ => fun
  | [d1, d2, d3] => { results := [.lit (.bool false)], args := [d1, d2, d3] }
  | _ => none }
def TableLooksWrongFalsely : Prop := tableLooksRow.holds Tryd.pinned (OpenSpec.ofChange tableLooksWrong)

/-- 'droverlaw11.TableOnce': WHATEVER THE INPUT: true; the input reads as it did. -/
def tableOnceSpec : ChangeSpec := { name := "tableOnce", fn := fun _ => fun
  | [d1, d2] => { results := [.lit (.bool true)], args := [d1, d2] }
  | _ => none }
def tableOnceRow : OpenClaim := { program := "ytjjfhibkcngphaadoor", sum := "95865535f79589e4b6462f7ba65aa7e464069b4c4e2bc4eface601fb87064d94", func := "drover/droverlaw11.TableOnce", spec := "tableOnce", inPlace := ["internal/abi.NoEscape", "internal/bytealg.MakeNoZero", "slices.overlaps[drover/api.Entry]"], unfollowed := true, recurses := true, named := ["drover/act.codes", "drover/act.kinds"], apart := false, laid := [("drover/act.kinds", laid_drover_act_kinds), ("drover/act.codes", laid_drover_act_codes)] }
def TableOnceSaid : Prop := tableOnceRow.holds Tryd.pinned (OpenSpec.ofChange tableOnceSpec)

/-- ITS FALSE NEIGHBOUR: 'it returns false'. Refute it at one input. -/
def tableOnceWrong : ChangeSpec := { name := "tableOnce", fn := fun _ => fun
  | [d1, d2] => { results := [.lit (.bool false)], args := [d1, d2] }
  | _ => none }
def TableOnceWrongFalsely : Prop := tableOnceRow.holds Tryd.pinned (OpenSpec.ofChange tableOnceWrong)

/-- 'droverlaw11.TableClash': WHATEVER THE INPUT: true; the input reads as it did. -/
def tableClashSpec : ChangeSpec := { name := "tableClash", fn := fun _ => fun
  | [d1, d2] => { results := [.lit (.bool true)], args := [d1, d2] }
  | _ => none }
def tableClashRow : OpenClaim := { program := "ytjjfhibkcngphaadoor", sum := "95865535f79589e4b6462f7ba65aa7e464069b4c4e2bc4eface601fb87064d94", func := "drover/droverlaw11.TableClash", spec := "tableClash", inPlace := ["internal/abi.NoEscape", "internal/bytealg.MakeNoZero", "slices.overlaps[drover/api.Entry]"], unfollowed := true, recurses := true, named := ["drover/act.codes", "drover/act.kinds"], apart := false, laid := [("drover/act.kinds", laid_drover_act_kinds), ("drover/act.codes", laid_drover_act_codes)] }
def TableClashSaid : Prop := tableClashRow.holds Tryd.pinned (OpenSpec.ofChange tableClashSpec)

/-- ITS FALSE NEIGHBOUR: 'it returns false'. Refute it at one input. -/
def tableClashWrong : ChangeSpec := { name := "tableClash", fn := fun _ => fun
  | [d1, d2] => { results := [.lit (.bool false)], args := [d1, d2] }
  | _ => none }
def TableClashWrongFalsely : Prop := tableClashRow.holds Tryd.pinned (OpenSpec.ofChange tableClashWrong)

/-- 'droverlaw11.TableNil': WHATEVER THE INPUT: true; the input reads as it did. -/
def tableNilSpec : ChangeSpec := { name := "tableNil", fn := fun _ => fun
  | [d1, d2] => { results := [.lit (.bool true)], args := [d1, d2] }
  | _ => none }
def tableNilRow : OpenClaim := { program := "ytjjfhibkcngphaadoor", sum := "95865535f79589e4b6462f7ba65aa7e464069b4c4e2bc4eface601fb87064d94", func := "drover/droverlaw11.TableNil", spec := "tableNil", inPlace := ["internal/abi.NoEscape", "internal/bytealg.MakeNoZero", "slices.overlaps[drover/api.Entry]"], unfollowed := true, recurses := true, named := ["drover/act.codes", "drover/act.kinds"], apart := false, laid := [("drover/act.kinds", laid_drover_act_kinds), ("drover/act.codes", laid_drover_act_codes)] }
def TableNilSaid : Prop := tableNilRow.holds Tryd.pinned (OpenSpec.ofChange tableNilSpec)

/-- ITS FALSE NEIGHBOUR: 'it returns false'. Refute it at one input. -/
def tableNilWrong : ChangeSpec := { name := "tableNil", fn := fun _ => fun
  | [d1, d2] => { results := [.lit (.bool false)], args := [d1, d2] }
  | _ => none }
def TableNilWrongFalsely : Prop := tableNilRow.holds Tryd.pinned (OpenSpec.ofChange tableNilWrong)

/- THE SECOND FORM. 'bulk': how many values and letters a reading holds, each counted each time it is reached (what is shared counts as often as it is met; a slice's spare places count too). A statement '..UptoSaid' is the law's where the arguments, and the package variables that the reading takes, are together of bulk at most 1048576: NARROWER than '..Said'. Prove '..Said' where nothing that the law and all that it calls make is longer than what came in: it says more and counts as full. Else prove '..UptoSaid'. A law counts once. -/
mutual
def uptoBulk {H : Type} : DataW H → Nat
  | .lit (.string bytes) => bytes.length + 1
  | .lit _ => 1
  | .nil => 1
  | .ptr d => uptoBulk d + 1
  | .slice elems spare => uptoBulkAll elems + uptoBulkAll spare + 1
  | .agg parts => uptoBulkAll parts + 1
  | .iface _ d => uptoBulk d + 1
  | .map entries => uptoBulkEntries entries + 1
  | .held _ => 1
def uptoBulkAll {H : Type} : List (DataW H) → Nat
  | [] => 0
  | d :: r => uptoBulk d + uptoBulkAll r
def uptoBulkEntries {H : Type} : List (Lit × DataW H) → Nat
  | [] => 0
  | x :: r => uptoBulkEntry x + uptoBulkEntries r
def uptoBulkEntry {H : Type} : Lit × DataW H → Nat
  | (.string bytes, d) => bytes.length + uptoBulk d + 1
  | (_, d) => uptoBulk d + 1
 end
def uptoSmall : (H : Type) → List (DataW H) → Bool := fun _ ds => decide (uptoBulkAll ds ≤ 1048576)
def OpenSpec.upto (s : _root_.Go.ChangeSpec) : _root_.Go.OpenSpec := { _root_.Go.OpenSpec.ofChange s with cond := some uptoSmall }

/-- 'droverlaw11.TableLooks', WHERE WHAT IT READS IS OF BULK AT MOST 1048576: true; the input reads as it did. -/
def tableLooksUptoRow : OpenClaim := { program := "ytjjfhibkcngphaadoor", sum := "95865535f79589e4b6462f7ba65aa7e464069b4c4e2bc4eface601fb87064d94", func := "drover/droverlaw11.TableLooks", spec := "tableLooks", inPlace := ["internal/abi.NoEscape", "internal/bytealg.MakeNoZero", "slices.overlaps[drover/api.Entry]"], unfollowed := true, recurses := true, named := ["drover/act.codes", "drover/act.kinds"], apart := false, laid := [("drover/act.kinds", laid_drover_act_kinds), ("drover/act.codes", laid_drover_act_codes)], narrowed := true }
def TableLooksUptoSaid : Prop := tableLooksUptoRow.holds Tryd.pinned (OpenSpec.upto tableLooksSpec)

/-- 'droverlaw11.TableOnce', WHERE WHAT IT READS IS OF BULK AT MOST 1048576: true; the input reads as it did. -/
def tableOnceUptoRow : OpenClaim := { program := "ytjjfhibkcngphaadoor", sum := "95865535f79589e4b6462f7ba65aa7e464069b4c4e2bc4eface601fb87064d94", func := "drover/droverlaw11.TableOnce", spec := "tableOnce", inPlace := ["internal/abi.NoEscape", "internal/bytealg.MakeNoZero", "slices.overlaps[drover/api.Entry]"], unfollowed := true, recurses := true, named := ["drover/act.codes", "drover/act.kinds"], apart := false, laid := [("drover/act.kinds", laid_drover_act_kinds), ("drover/act.codes", laid_drover_act_codes)], narrowed := true }
def TableOnceUptoSaid : Prop := tableOnceUptoRow.holds Tryd.pinned (OpenSpec.upto tableOnceSpec)

/-- 'droverlaw11.TableClash', WHERE WHAT IT READS IS OF BULK AT MOST 1048576: true; the input reads as it did. -/
def tableClashUptoRow : OpenClaim := { program := "ytjjfhibkcngphaadoor", sum := "95865535f79589e4b6462f7ba65aa7e464069b4c4e2bc4eface601fb87064d94", func := "drover/droverlaw11.TableClash", spec := "tableClash", inPlace := ["internal/abi.NoEscape", "internal/bytealg.MakeNoZero", "slices.overlaps[drover/api.Entry]"], unfollowed := true, recurses := true, named := ["drover/act.codes", "drover/act.kinds"], apart := false, laid := [("drover/act.kinds", laid_drover_act_kinds), ("drover/act.codes", laid_drover_act_codes)], narrowed := true }
def TableClashUptoSaid : Prop := tableClashUptoRow.holds Tryd.pinned (OpenSpec.upto tableClashSpec)

/-- 'droverlaw11.TableNil', WHERE WHAT IT READS IS OF BULK AT MOST 1048576: true; the input reads as it did. -/
def tableNilUptoRow : OpenClaim := { program := "ytjjfhibkcngphaadoor", sum := "95865535f79589e4b6462f7ba65aa7e464069b4c4e2bc4eface601fb87064d94", func := "drover/droverlaw11.TableNil", spec := "tableNil", inPlace := ["internal/abi.NoEscape", "internal/bytealg.MakeNoZero", "slices.overlaps[drover/api.Entry]"], unfollowed := true, recurses := true, named := ["drover/act.codes", "drover/act.kinds"], apart := false, laid := [("drover/act.kinds", laid_drover_act_kinds), ("drover/act.codes", laid_drover_act_codes)], narrowed := true }
def TableNilUptoSaid : Prop := tableNilUptoRow.holds Tryd.pinned (OpenSpec.upto tableNilSpec)

end Rows
end Go.Proofs.YtjjfhibkcngphaaDoor
