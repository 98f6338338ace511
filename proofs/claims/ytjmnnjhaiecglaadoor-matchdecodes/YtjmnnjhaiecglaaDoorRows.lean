/-
  NARROWER THAN 'FOR EVERY INPUT', by the rows' own cells (each row's printed sentence says how): MatchRight: laid · MatchTakes: laid · MatchPairs: laid · MatchEncodes: laid · MatchDecodes: laid · MatchBack: laid.
  DERIVED. THE GIVEN ROWS OF THIS SEAT. 6 by the template 'for every input the law returns true; each argument reads behind the call as it read before'; 0 by the template 'total and deterministic' (their statements: YtjmnnjhaiecglaaDoorTotals.lean).
  GIVEN WITH THE SEED: the statements are not yours to turn. If you find one false, say at which input.
  Laid BY PROGRAM, IN A SANDBOX (cutbox-rows.mjs): the forced cells as the released guide's own fill.sh prints them over the translation 9256de5e0fbf3c32… (all of the seat's roots in one cut). By AI agents, Wed Nov 11 2026. No macro, syntax, notation, axiom, sorry.
-/
import Derived.Test.YtjmnnjhaiecglaaDoorChecked
import GoSem.Claim
import GoSem.ClaimJoined
import GoSem.ClaimMapViews
import Derived.JoinedTies
import Derived.KernelRfl
namespace Go.Proofs.YtjmnnjhaiecglaaDoor
/- THE CELL 'sum', in the pinned program and in every row, IS THE sha256 OF THE DUMP (.gsa) THAT YtjmnnjhaiecglaaDoorProg.lean LOADS. Nothing in Lean hashes anything: it is a label: what it is worth is what the hold of that sum in a sandbox is worth. -/
noncomputable def Tryd.pinned : Pinned := { name := "ytjmnnjhaiecglaadoor", sum := "9256de5e0fbf3c3228181e339ea8c5796eb3c45c97820b56b1e1c3601f252fc5", checked := Tryd.checked }
namespace Rows
def none {H : Type} : Left H := { results := [], args := [] }

/- WHAT THE LISTED PACKAGE-LEVEL VARIABLES READ AS WHEN THE CALL BEGINS. Each datum BY PROGRAM (the guide's laid-datum.mjs) off the statement by which the dump's own 'gosem.cut.vars' lays the variable. In a bare row this is a premise. The card (YtjmnnjhaiecglaaDoorCards.lean) ties it to the program's text. -/
def laid_drover_match_codes {H : Type} : DataW H := .agg [.agg [.lit (.int .i64 1), .lit (.int .i64 0), .lit (.int .i64 0)], .agg [.lit (.int .i64 2), .lit (.int .i64 0), .lit (.int .i64 2)], .agg [.lit (.int .i64 4), .lit (.int .i64 0), .lit (.int .i64 5)], .agg [.lit (.int .i64 3), .lit (.int .i64 0), .lit (.int .i64 6)], .agg [.lit (.int .i64 7), .lit (.int .i64 0), .lit (.int .i64 10)], .agg [.lit (.int .i64 5), .lit (.int .i64 0), .lit (.int .i64 11)], .agg [.lit (.int .i64 6), .lit (.int .i64 0), .lit (.int .i64 12)], .agg [.lit (.int .i64 8), .lit (.int .i64 6), .lit (.int .i64 13)], .agg [.lit (.int .i64 9), .lit (.int .i64 6), .lit (.int .i64 14)], .agg [.lit (.int .i64 8), .lit (.int .i64 17), .lit (.int .i64 15)], .agg [.lit (.int .i64 9), .lit (.int .i64 17), .lit (.int .i64 16)]]

/-- 'droverlaw05.MatchRight': WHATEVER THE INPUT: true; the input reads as it did. -/
def matchRightSpec : ChangeSpec := { name := "matchRight", fn := fun _ => fun
  | [d] => { results := [.lit (.bool true)], args := [d] }
  | _ => none }
def matchRightRow : OpenClaim := { program := "ytjmnnjhaiecglaadoor", sum := "9256de5e0fbf3c3228181e339ea8c5796eb3c45c97820b56b1e1c3601f252fc5", func := "drover/droverlaw05.MatchRight", spec := "matchRight", inPlace := ["internal/abi.NoEscape", "internal/bytealg.MakeNoZero"], named := ["drover/match.codes"], apart := false, laid := [("drover/match.codes", laid_drover_match_codes)] }
def MatchRightSaid : Prop := matchRightRow.holds Tryd.pinned (OpenSpec.ofChange matchRightSpec)

/-- ITS FALSE NEIGHBOUR: 'it returns false'. Refute it at one input. -/
def matchRightWrong : ChangeSpec := { name := "matchRight", fn := fun _ => fun
  | [d] => { results := [.lit (.bool false)], args := [d] }
  | _ => none }
def MatchRightWrongFalsely : Prop := matchRightRow.holds Tryd.pinned (OpenSpec.ofChange matchRightWrong)

/-- 'droverlaw05.MatchTakes': WHATEVER THE INPUT: true; the input reads as it did. -/
def matchTakesSpec : ChangeSpec := { name := "matchTakes", fn := fun _ => fun
  | [d1, d2] => { results := [.lit (.bool true)], args := [d1, d2] }
  | _ => none }
def matchTakesRow : OpenClaim := { program := "ytjmnnjhaiecglaadoor", sum := "9256de5e0fbf3c3228181e339ea8c5796eb3c45c97820b56b1e1c3601f252fc5", func := "drover/droverlaw05.MatchTakes", spec := "matchTakes", inPlace := ["internal/abi.NoEscape", "internal/bytealg.MakeNoZero"], named := ["drover/match.codes"], apart := false, laid := [("drover/match.codes", laid_drover_match_codes)] }
def MatchTakesSaid : Prop := matchTakesRow.holds Tryd.pinned (OpenSpec.ofChange matchTakesSpec)

/-- ITS FALSE NEIGHBOUR: 'it returns false'. Refute it at one input. -/
def matchTakesWrong : ChangeSpec := { name := "matchTakes", fn := fun _ => fun
  | [d1, d2] => { results := [.lit (.bool false)], args := [d1, d2] }
  | _ => none }
def MatchTakesWrongFalsely : Prop := matchTakesRow.holds Tryd.pinned (OpenSpec.ofChange matchTakesWrong)

/-- 'droverlaw05.MatchPairs': WHATEVER THE INPUT: true; the input reads as it did. -/
def matchPairsSpec : ChangeSpec := { name := "matchPairs", fn := fun _ => fun
  | [d1, d2] => { results := [.lit (.bool true)], args := [d1, d2] }
  | _ => none }
def matchPairsRow : OpenClaim := { program := "ytjmnnjhaiecglaadoor", sum := "9256de5e0fbf3c3228181e339ea8c5796eb3c45c97820b56b1e1c3601f252fc5", func := "drover/droverlaw05.MatchPairs", spec := "matchPairs", inPlace := ["internal/abi.NoEscape", "internal/bytealg.MakeNoZero"], named := ["drover/match.codes"], apart := false, laid := [("drover/match.codes", laid_drover_match_codes)] }
def MatchPairsSaid : Prop := matchPairsRow.holds Tryd.pinned (OpenSpec.ofChange matchPairsSpec)

/-- ITS FALSE NEIGHBOUR: 'it returns false'. Refute it at one input. -/
def matchPairsWrong : ChangeSpec := { name := "matchPairs", fn := fun _ => fun
  | [d1, d2] => { results := [.lit (.bool false)], args := [d1, d2] }
  | _ => none }
def MatchPairsWrongFalsely : Prop := matchPairsRow.holds Tryd.pinned (OpenSpec.ofChange matchPairsWrong)

/-- 'droverlaw05.MatchEncodes': WHATEVER THE INPUT: true; the input reads as it did. -/
def matchEncodesSpec : ChangeSpec := { name := "matchEncodes", fn := fun _ => fun
  | [d] => { results := [.lit (.bool true)], args := [d] }
  | _ => none }
def matchEncodesRow : OpenClaim := { program := "ytjmnnjhaiecglaadoor", sum := "9256de5e0fbf3c3228181e339ea8c5796eb3c45c97820b56b1e1c3601f252fc5", func := "drover/droverlaw05.MatchEncodes", spec := "matchEncodes", inPlace := ["internal/abi.NoEscape", "internal/bytealg.MakeNoZero"], named := ["drover/match.codes"], apart := false, laid := [("drover/match.codes", laid_drover_match_codes)] }
def MatchEncodesSaid : Prop := matchEncodesRow.holds Tryd.pinned (OpenSpec.ofChange matchEncodesSpec)

/-- ITS FALSE NEIGHBOUR: 'it returns false'. Refute it at one input. -/
def matchEncodesWrong : ChangeSpec := { name := "matchEncodes", fn := fun _ => fun
  | [d] => { results := [.lit (.bool false)], args := [d] }
  | _ => none }
def MatchEncodesWrongFalsely : Prop := matchEncodesRow.holds Tryd.pinned (OpenSpec.ofChange matchEncodesWrong)

/-- 'droverlaw05.MatchDecodes': WHATEVER THE INPUT: true; the input reads as it did. -/
def matchDecodesSpec : ChangeSpec := { name := "matchDecodes", fn := fun _ => fun
  | [d] => { results := [.lit (.bool true)], args := [d] }
  | _ => none }
def matchDecodesRow : OpenClaim := { program := "ytjmnnjhaiecglaadoor", sum := "9256de5e0fbf3c3228181e339ea8c5796eb3c45c97820b56b1e1c3601f252fc5", func := "drover/droverlaw05.MatchDecodes", spec := "matchDecodes", inPlace := ["internal/abi.NoEscape", "internal/bytealg.MakeNoZero"], named := ["drover/match.codes"], apart := false, laid := [("drover/match.codes", laid_drover_match_codes)] }
def MatchDecodesSaid : Prop := matchDecodesRow.holds Tryd.pinned (OpenSpec.ofChange matchDecodesSpec)

/-- ITS FALSE NEIGHBOUR: 'it returns false'. Refute it at one input. -/
def matchDecodesWrong : ChangeSpec := { name := "matchDecodes", fn := fun _ => fun
  | [d] => { results := [.lit (.bool false)], args := [d] }
  | _ => none }
def MatchDecodesWrongFalsely : Prop := matchDecodesRow.holds Tryd.pinned (OpenSpec.ofChange matchDecodesWrong)

/-- 'droverlaw05.MatchBack': WHATEVER THE INPUT: true; the input reads as it did. -/
def matchBackSpec : ChangeSpec := { name := "matchBack", fn := fun _ => fun
  | [d1, d2] => { results := [.lit (.bool true)], args := [d1, d2] }
  | _ => none }
def matchBackRow : OpenClaim := { program := "ytjmnnjhaiecglaadoor", sum := "9256de5e0fbf3c3228181e339ea8c5796eb3c45c97820b56b1e1c3601f252fc5", func := "drover/droverlaw05.MatchBack", spec := "matchBack", inPlace := ["internal/abi.NoEscape", "internal/bytealg.MakeNoZero"], named := ["drover/match.codes"], apart := false, laid := [("drover/match.codes", laid_drover_match_codes)] }
def MatchBackSaid : Prop := matchBackRow.holds Tryd.pinned (OpenSpec.ofChange matchBackSpec)

/-- ITS FALSE NEIGHBOUR: 'it returns false'. Refute it at one input. -/
def matchBackWrong : ChangeSpec := { name := "matchBack", fn := fun _ => fun
  | [d1, d2] => { results := [.lit (.bool false)], args := [d1, d2] }
  | _ => none }
def MatchBackWrongFalsely : Prop := matchBackRow.holds Tryd.pinned (OpenSpec.ofChange matchBackWrong)

/- THE SECOND FORM. 'bulk': how many values and letters a reading holds, each counted each time it is reached (what is shared counts as often as it is met; a slice's spare places count too). A statement '..UptoSaid' is the law's where the arguments, and the package variables that the reading takes, are together of bulk at most 1048576: NARROWER than '..Said'. Prove '..Said' where nothing that the law and all that it calls make is longer than what came in: it says more and counts as full. Else prove '..UptoSaid'. A law counts once. -/
mutual
def uptoBulk {H : Type} : DataW H → Nat
  | .lit (.string bytes) => bytes.length + 1
  | .lit _ => 1
  | .nil => 1
  | .ptr d => uptoBulk d + 1
  | .slice elems spare => uptoBulkAll elems + uptoBulkAll spare + 1
  | .agg parts => uptoBulkAll parts + 1
  | .iface _ d => uptoBulk d + 1
  | .map entries => uptoBulkEntries entries + 1
  | .held _ => 1
def uptoBulkAll {H : Type} : List (DataW H) → Nat
  | [] => 0
  | d :: r => uptoBulk d + uptoBulkAll r
def uptoBulkEntries {H : Type} : List (Lit × DataW H) → Nat
  | [] => 0
  | x :: r => uptoBulkEntry x + uptoBulkEntries r
def uptoBulkEntry {H : Type} : Lit × DataW H → Nat
  | (.string bytes, d) => bytes.length + uptoBulk d + 1
  | (_, d) => uptoBulk d + 1
 end
def uptoSmall : (H : Type) → List (DataW H) → Bool := fun _ ds => decide (uptoBulkAll ds ≤ 1048576)
def OpenSpec.upto (s : _root_.Go.ChangeSpec) : _root_.Go.OpenSpec := { _root_.Go.OpenSpec.ofChange s with cond := some uptoSmall }

/-- 'droverlaw05.MatchRight', WHERE WHAT IT READS IS OF BULK AT MOST 1048576: true; the input reads as it did. -/
def matchRightUptoRow : OpenClaim := { program := "ytjmnnjhaiecglaadoor", sum := "9256de5e0fbf3c3228181e339ea8c5796eb3c45c97820b56b1e1c3601f252fc5", func := "drover/droverlaw05.MatchRight", spec := "matchRight", inPlace := ["internal/abi.NoEscape", "internal/bytealg.MakeNoZero"], named := ["drover/match.codes"], apart := false, laid := [("drover/match.codes", laid_drover_match_codes)], narrowed := true }
def MatchRightUptoSaid : Prop := matchRightUptoRow.holds Tryd.pinned (OpenSpec.upto matchRightSpec)

/-- 'droverlaw05.MatchTakes', WHERE WHAT IT READS IS OF BULK AT MOST 1048576: true; the input reads as it did. -/
def matchTakesUptoRow : OpenClaim := { program := "ytjmnnjhaiecglaadoor", sum := "9256de5e0fbf3c3228181e339ea8c5796eb3c45c97820b56b1e1c3601f252fc5", func := "drover/droverlaw05.MatchTakes", spec := "matchTakes", inPlace := ["internal/abi.NoEscape", "internal/bytealg.MakeNoZero"], named := ["drover/match.codes"], apart := false, laid := [("drover/match.codes", laid_drover_match_codes)], narrowed := true }
def MatchTakesUptoSaid : Prop := matchTakesUptoRow.holds Tryd.pinned (OpenSpec.upto matchTakesSpec)

/-- 'droverlaw05.MatchPairs', WHERE WHAT IT READS IS OF BULK AT MOST 1048576: true; the input reads as it did. -/
def matchPairsUptoRow : OpenClaim := { program := "ytjmnnjhaiecglaadoor", sum := "9256de5e0fbf3c3228181e339ea8c5796eb3c45c97820b56b1e1c3601f252fc5", func := "drover/droverlaw05.MatchPairs", spec := "matchPairs", inPlace := ["internal/abi.NoEscape", "internal/bytealg.MakeNoZero"], named := ["drover/match.codes"], apart := false, laid := [("drover/match.codes", laid_drover_match_codes)], narrowed := true }
def MatchPairsUptoSaid : Prop := matchPairsUptoRow.holds Tryd.pinned (OpenSpec.upto matchPairsSpec)

/-- 'droverlaw05.MatchEncodes', WHERE WHAT IT READS IS OF BULK AT MOST 1048576: true; the input reads as it did. -/
def matchEncodesUptoRow : OpenClaim := { program := "ytjmnnjhaiecglaadoor", sum := "9256de5e0fbf3c3228181e339ea8c5796eb3c45c97820b56b1e1c3601f252fc5", func := "drover/droverlaw05.MatchEncodes", spec := "matchEncodes", inPlace := ["internal/abi.NoEscape", "internal/bytealg.MakeNoZero"], named := ["drover/match.codes"], apart := false, laid := [("drover/match.codes", laid_drover_match_codes)], narrowed := true }
def MatchEncodesUptoSaid : Prop := matchEncodesUptoRow.holds Tryd.pinned (OpenSpec.upto matchEncodesSpec)

/-- 'droverlaw05.MatchDecodes', WHERE WHAT IT READS IS OF BULK AT MOST 1048576: true; the input reads as it did. -/
def matchDecodesUptoRow : OpenClaim := { program := "ytjmnnjhaiecglaadoor", sum := "9256de5e0fbf3c3228181e339ea8c5796eb3c45c97820b56b1e1c3601f252fc5", func := "drover/droverlaw05.MatchDecodes", spec := "matchDecodes", inPlace := ["internal/abi.NoEscape", "internal/bytealg.MakeNoZero"], named := ["drover/match.codes"], apart := false, laid := [("drover/match.codes", laid_drover_match_codes)], narrowed := true }
def MatchDecodesUptoSaid : Prop := matchDecodesUptoRow.holds Tryd.pinned (OpenSpec.upto matchDecodesSpec)

/-- 'droverlaw05.MatchBack', WHERE WHAT IT READS IS OF BULK AT MOST 1048576: true; the input reads as it did. -/
def matchBackUptoRow : OpenClaim := { program := "ytjmnnjhaiecglaadoor", sum := "9256de5e0fbf3c3228181e339ea8c5796eb3c45c97820b56b1e1c3601f252fc5", func := "drover/droverlaw05.MatchBack", spec := "matchBack", inPlace := ["internal/abi.NoEscape", "internal/bytealg.MakeNoZero"], named := ["drover/match.codes"], apart := false, laid := [("drover/match.codes", laid_drover_match_codes)], narrowed := true }
def MatchBackUptoSaid : Prop := matchBackUptoRow.holds Tryd.pinned (OpenSpec.upto matchBackSpec)

end Rows
end Go.Proofs.YtjmnnjhaiecglaaDoor
