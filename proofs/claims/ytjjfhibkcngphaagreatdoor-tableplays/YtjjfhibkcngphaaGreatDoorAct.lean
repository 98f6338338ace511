/-
  Actions: the plain mathematics (nothing of the program).
-/
import Derived.WalkKit
namespace Go.Proofs.YtjjfhibkcngphaaGreatDoor
/-- An action: Kind, Field, Value. -/
abbrev A := Int × Int × Int
/-- An action's numbers are of their types. -/
structure AW (a : A) : Prop where
  f0 : -9223372036854775808 ≤ a.2.1
  f1 : a.2.1 < 9223372036854775808
  v0 : 0 ≤ a.2.2
  v1 : a.2.2 < 18446744073709551616
abbrev AWs (l : List A) : Prop := ∀ a ∈ l, AW a
end Go.Proofs.YtjjfhibkcngphaaGreatDoor
