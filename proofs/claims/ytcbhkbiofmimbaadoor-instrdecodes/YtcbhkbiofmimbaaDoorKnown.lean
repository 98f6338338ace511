/-
  A slice of one action that was made.
-/
import Derived.Test.YtcbhkbiofmimbaaDoorApp
import Derived.Test.YtcbhkbiofmimbaaDoorPlace
namespace Go.Proofs.YtcbhkbiofmimbaaDoor
open Go.ChangeShapes Go.WideShapes Go.ChangeAt Go.RowKit

theorem ts_new (w : World) (t : A) : Ts (tx w t) (some ⟨w.heap.size, 0, none⟩) [t] := .inr ⟨w.heap.size, 0, rfl, by simp, fun i hi => by
  have : i = 0 := by simp at hi; omega
  subst this
  exact C3.new w t⟩
end Go.Proofs.YtcbhkbiofmimbaaDoor
