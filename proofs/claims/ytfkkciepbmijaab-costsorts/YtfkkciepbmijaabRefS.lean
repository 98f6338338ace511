/-
  The document's sum: whole, down, Add.
-/
import Derived.Test.YtfkkciepbmijaabRefA
namespace Go.Proofs.Ytfkkciepbmijaab
open Go.ChangeShapes Go.WideShapes Go.ChangeAt Go.RowKit
set_option linter.unusedVariables false

end Go.Proofs.Ytfkkciepbmijaab
