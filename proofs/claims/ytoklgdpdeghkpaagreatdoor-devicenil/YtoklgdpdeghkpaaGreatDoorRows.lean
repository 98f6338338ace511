/-
  NARROWER THAN 'FOR EVERY INPUT', by the rows' own cells (each row's printed sentence says how): DeviceNil: laid.
  DERIVED. THE GIVEN ROWS OF THIS SEAT. 1 by the template 'for every input the law returns true; each argument reads behind the call as it read before'; 0 by the template 'total and deterministic' (their statements: YtoklgdpdeghkpaaGreatDoorTotals.lean).
  GIVEN WITH THE SEED: the statements are not yours to turn. If you find one false, say at which input.
  Laid BY PROGRAM, IN A SANDBOX (cutbox-rows.mjs): the forced cells as the released guide's own fill.sh prints them over the translation c3bc907f42c78279… (all of the seat's roots in one cut). By AI agents, Wed Nov 11 2026. No macro, syntax, notation, axiom, sorry.
-/
import Derived.Test.YtoklgdpdeghkpaaGreatDoorChecked
import GoSem.Claim
import GoSem.ClaimJoined
import GoSem.ClaimMapViews
import Derived.JoinedTies
import Derived.KernelRfl
namespace Go.Proofs.YtoklgdpdeghkpaaGreatDoor
/- THE CELL 'sum', in the pinned program and in every row, IS THE sha256 OF THE DUMP (.gsa) THAT YtoklgdpdeghkpaaGreatDoorProg.lean LOADS. Nothing in Lean hashes anything: it is a label: what it is worth is what the hold of that sum in a sandbox is worth. -/
noncomputable def Tryz.pinned : Pinned := { name := "ytoklgdpdeghkpaagreatdoor", sum := "c3bc907f42c782793e9da1114d3f05ad738d153dc28f500e63872494b5da6330", checked := Tryz.checked }
namespace Rows
def none {H : Type} : Left H := { results := [], args := [] }

/- WHAT THE LISTED PACKAGE-LEVEL VARIABLES READ AS WHEN THE CALL BEGINS. Each datum BY PROGRAM (the guide's laid-datum.mjs) off the statement by which the dump's own 'gosem.cut.vars' lays the variable. In a bare row this is a premise. The card (YtoklgdpdeghkpaaGreatDoorCards.lean) ties it to the program's text. -/
def laid_drover_act_kinds {H : Type} : DataW H := .agg [.agg [.lit (.int .i64 1), .lit (.int .i64 0), .lit (.int .i64 16)], .agg [.lit (.int .i64 2), .lit (.int .i64 22), .lit (.int .i64 8)], .agg [.lit (.int .i64 3), .lit (.int .i64 17), .lit (.int .i64 8)], .agg [.lit (.int .i64 4), .lit (.int .i64 18), .lit (.int .i64 8)], .agg [.lit (.int .i64 5), .lit (.int .i64 25), .lit (.int .i64 16)]]
def laid_drover_act_codes {H : Type} : DataW H := .agg [.agg [.lit (.int .i64 3), .lit (.int .i64 6)], .agg [.lit (.int .i64 5), .lit (.int .i64 11)], .agg [.lit (.int .i64 6), .lit (.int .i64 12)], .agg [.lit (.int .i64 8), .lit (.int .i64 13)], .agg [.lit (.int .i64 9), .lit (.int .i64 14)]]
def laid_drover_instr_order {H : Type} : DataW H := .agg [.lit (.int .i64 6), .lit (.int .i64 4), .lit (.int .i64 5), .lit (.int .i64 3), .lit (.int .i64 2), .lit (.int .i64 1)]
def laid_drover_match_codes {H : Type} : DataW H := .agg [.agg [.lit (.int .i64 1), .lit (.int .i64 0), .lit (.int .i64 0)], .agg [.lit (.int .i64 2), .lit (.int .i64 0), .lit (.int .i64 2)], .agg [.lit (.int .i64 4), .lit (.int .i64 0), .lit (.int .i64 5)], .agg [.lit (.int .i64 3), .lit (.int .i64 0), .lit (.int .i64 6)], .agg [.lit (.int .i64 7), .lit (.int .i64 0), .lit (.int .i64 10)], .agg [.lit (.int .i64 5), .lit (.int .i64 0), .lit (.int .i64 11)], .agg [.lit (.int .i64 6), .lit (.int .i64 0), .lit (.int .i64 12)], .agg [.lit (.int .i64 8), .lit (.int .i64 6), .lit (.int .i64 13)], .agg [.lit (.int .i64 9), .lit (.int .i64 6), .lit (.int .i64 14)], .agg [.lit (.int .i64 8), .lit (.int .i64 17), .lit (.int .i64 15)], .agg [.lit (.int .i64 9), .lit (.int .i64 17), .lit (.int .i64 16)]]
def laid_drover_device_wrongBytes {H : Type} : DataW H := .agg [.lit (.int .i64 1), .lit (.int .i64 0)]
def laid_drover_device_wrongKind {H : Type} : DataW H := .agg [.lit (.int .i64 1), .lit (.int .i64 1)]
def laid_drover_device_noGroupOfEntry {H : Type} : DataW H := .agg [.lit (.int .i64 2), .lit (.int .i64 9)]
def laid_drover_device_wrongFlow {H : Type} : DataW H := .agg [.lit (.int .i64 5), .lit (.int .i64 0)]
def laid_drover_device_fullTable {H : Type} : DataW H := .agg [.lit (.int .i64 5), .lit (.int .i64 1)]
def laid_drover_device_clash {H : Type} : DataW H := .agg [.lit (.int .i64 5), .lit (.int .i64 3)]
def laid_drover_device_groupTwice {H : Type} : DataW H := .agg [.lit (.int .i64 6), .lit (.int .i64 0)]
def laid_drover_device_wrongGroup {H : Type} : DataW H := .agg [.lit (.int .i64 6), .lit (.int .i64 1)]
def laid_drover_device_fullGroups {H : Type} : DataW H := .agg [.lit (.int .i64 6), .lit (.int .i64 3)]
def laid_drover_device_loop {H : Type} : DataW H := .agg [.lit (.int .i64 6), .lit (.int .i64 7)]
def laid_drover_device_noGroup {H : Type} : DataW H := .agg [.lit (.int .i64 6), .lit (.int .i64 8)]
def laid_drover_device_meterTwice {H : Type} : DataW H := .agg [.lit (.int .i64 12), .lit (.int .i64 2)]
def laid_drover_device_noMeter {H : Type} : DataW H := .agg [.lit (.int .i64 12), .lit (.int .i64 3)]

/-- 'droverlaw13.DeviceNil': WHATEVER THE INPUT: true; the input reads as it did. -/
def deviceNilSpec : ChangeSpec := { name := "deviceNil", fn := fun _ => fun
  | [d1, d2] => { results := [.lit (.bool true)], args := [d1, d2] }
  | _ => none }
def deviceNilRow : OpenClaim := { program := "ytoklgdpdeghkpaagreatdoor", sum := "c3bc907f42c782793e9da1114d3f05ad738d153dc28f500e63872494b5da6330", func := "drover/droverlaw13.DeviceNil", spec := "deviceNil", inPlace := ["internal/abi.NoEscape", "internal/bytealg.MakeNoZero", "slices.overlaps[drover/api.Entry]"], unfollowed := true, recurses := true, named := ["drover/act.kinds", "drover/act.codes", "drover/match.codes", "drover/instr.order", "drover/device.wrongKind", "drover/device.wrongBytes", "drover/device.fullTable", "drover/device.clash", "drover/device.wrongFlow", "drover/device.noMeter", "drover/device.noGroupOfEntry", "drover/device.groupTwice", "drover/device.noGroup", "drover/device.fullGroups", "drover/device.loop", "drover/device.wrongGroup", "drover/device.meterTwice"], apart := false, laid := [("drover/act.kinds", laid_drover_act_kinds), ("drover/act.codes", laid_drover_act_codes), ("drover/instr.order", laid_drover_instr_order), ("drover/match.codes", laid_drover_match_codes), ("drover/device.wrongBytes", laid_drover_device_wrongBytes), ("drover/device.wrongKind", laid_drover_device_wrongKind), ("drover/device.noGroupOfEntry", laid_drover_device_noGroupOfEntry), ("drover/device.wrongFlow", laid_drover_device_wrongFlow), ("drover/device.fullTable", laid_drover_device_fullTable), ("drover/device.clash", laid_drover_device_clash), ("drover/device.groupTwice", laid_drover_device_groupTwice), ("drover/device.wrongGroup", laid_drover_device_wrongGroup), ("drover/device.fullGroups", laid_drover_device_fullGroups), ("drover/device.loop", laid_drover_device_loop), ("drover/device.noGroup", laid_drover_device_noGroup), ("drover/device.meterTwice", laid_drover_device_meterTwice), ("drover/device.noMeter", laid_drover_device_noMeter)] }
def DeviceNilSaid : Prop := deviceNilRow.holds Tryz.pinned (OpenSpec.ofChange deviceNilSpec)

/-- ITS FALSE NEIGHBOUR: 'it returns false'. Refute it at one input. -/
def deviceNilWrong : ChangeSpec := { name := "deviceNil", fn := fun _ => fun
  | [d1, d2] => { results := [.lit (.bool false)], args := [d1, d2] }
  | _ => none }
def DeviceNilWrongFalsely : Prop := deviceNilRow.holds Tryz.pinned (OpenSpec.ofChange deviceNilWrong)

/- THE SECOND FORM. 'bulk': how many values and letters a reading holds, each counted each time it is reached (what is shared counts as often as it is met; a slice's spare places count too). A statement '..UptoSaid' is the law's where the arguments, and the package variables that the reading takes, are together of bulk at most 1048576: NARROWER than '..Said'. Prove '..Said' where nothing that the law and all that it calls make is longer than what came in: it says more and counts as full. Else prove '..UptoSaid'. A law counts once. -/
mutual
def uptoBulk {H : Type} : DataW H → Nat
  | .lit (.string bytes) => bytes.length + 1
  | .lit _ => 1
  | .nil => 1
  | .ptr d => uptoBulk d + 1
  | .slice elems spare => uptoBulkAll elems + uptoBulkAll spare + 1
  | .agg parts => uptoBulkAll parts + 1
  | .iface _ d => uptoBulk d + 1
  | .map entries => uptoBulkEntries entries + 1
  | .held _ => 1
def uptoBulkAll {H : Type} : List (DataW H) → Nat
  | [] => 0
  | d :: r => uptoBulk d + uptoBulkAll r
def uptoBulkEntries {H : Type} : List (Lit × DataW H) → Nat
  | [] => 0
  | x :: r => uptoBulkEntry x + uptoBulkEntries r
def uptoBulkEntry {H : Type} : Lit × DataW H → Nat
  | (.string bytes, d) => bytes.length + uptoBulk d + 1
  | (_, d) => uptoBulk d + 1
 end
def uptoSmall : (H : Type) → List (DataW H) → Bool := fun _ ds => decide (uptoBulkAll ds ≤ 1048576)
def OpenSpec.upto (s : _root_.Go.ChangeSpec) : _root_.Go.OpenSpec := { _root_.Go.OpenSpec.ofChange s with cond := some uptoSmall }

/-- 'droverlaw13.DeviceNil', WHERE WHAT IT READS IS OF BULK AT MOST 1048576: true; the input reads as it did. -/
def deviceNilUptoRow : OpenClaim := { program := "ytoklgdpdeghkpaagreatdoor", sum := "c3bc907f42c782793e9da1114d3f05ad738d153dc28f500e63872494b5da6330", func := "drover/droverlaw13.DeviceNil", spec := "deviceNil", inPlace := ["internal/abi.NoEscape", "internal/bytealg.MakeNoZero", "slices.overlaps[drover/api.Entry]"], unfollowed := true, recurses := true, named := ["drover/act.kinds", "drover/act.codes", "drover/match.codes", "drover/instr.order", "drover/device.wrongKind", "drover/device.wrongBytes", "drover/device.fullTable", "drover/device.clash", "drover/device.wrongFlow", "drover/device.noMeter", "drover/device.noGroupOfEntry", "drover/device.groupTwice", "drover/device.noGroup", "drover/device.fullGroups", "drover/device.loop", "drover/device.wrongGroup", "drover/device.meterTwice"], apart := false, laid := [("drover/act.kinds", laid_drover_act_kinds), ("drover/act.codes", laid_drover_act_codes), ("drover/instr.order", laid_drover_instr_order), ("drover/match.codes", laid_drover_match_codes), ("drover/device.wrongBytes", laid_drover_device_wrongBytes), ("drover/device.wrongKind", laid_drover_device_wrongKind), ("drover/device.noGroupOfEntry", laid_drover_device_noGroupOfEntry), ("drover/device.wrongFlow", laid_drover_device_wrongFlow), ("drover/device.fullTable", laid_drover_device_fullTable), ("drover/device.clash", laid_drover_device_clash), ("drover/device.groupTwice", laid_drover_device_groupTwice), ("drover/device.wrongGroup", laid_drover_device_wrongGroup), ("drover/device.fullGroups", laid_drover_device_fullGroups), ("drover/device.loop", laid_drover_device_loop), ("drover/device.noGroup", laid_drover_device_noGroup), ("drover/device.meterTwice", laid_drover_device_meterTwice), ("drover/device.noMeter", laid_drover_device_noMeter)], narrowed := true }
def DeviceNilUptoSaid : Prop := deviceNilUptoRow.holds Tryz.pinned (OpenSpec.upto deviceNilSpec)

end Rows
end Go.Proofs.YtoklgdpdeghkpaaGreatDoor
