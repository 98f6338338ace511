/-
  The document's sum: Add, walked.
-/
import Derived.Test.YtfkkciepbmijaabRefF
namespace Go.Proofs.Ytfkkciepbmijaab
open Go.ChangeShapes Go.WideShapes Go.ChangeAt Go.RowKit
set_option linter.unusedVariables false

end Go.Proofs.Ytfkkciepbmijaab
