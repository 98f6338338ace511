/-
  The chapter's examples: what they come to.
-/
import Derived.Test.YtmobmpghpdaddaaSameC
namespace Go.Proofs.Ytmobmpghpdaddaa
open Go.ChangeShapes Go.WideShapes Go.ChangeAt Go.RowKit
set_option linter.unusedVariables false
set_option linter.unusedSimpArgs false

def t1 : Tst := ⟨9, 1#64, 1#64⟩
def t2 : Tst := ⟨9, 2#64, 2#64⟩
def t3 : Tst := ⟨9, 2#64, 3#64⟩
def o5 : List B64 := [0#64, 0#64, 0#64, 0#64, 0#64, 0#64, 0#64, 0#64, 0#64, 5#64]
def exOr : List Nd := madeL 5 [isL t1, isL t2]
def exNot : List Nd := madeL 6 [isL t1]
def exAnd : List Nd := madeL 4 [isL t1, isL t2]
theorem ex_r1 : rightB (isL t1) = true := by decide +kernel
theorem ex_r2 : rightB (isL t2) = true := by decide +kernel
theorem ex_l1 : (isL t1).length = 1 := by decide +kernel
theorem ex_l2 : (isL t2).length = 1 := by decide +kernel
theorem ex_ror : rightB exOr = true := by decide +kernel
theorem ex_rnot : rightB exNot = true := by decide +kernel
theorem ex_rand : rightB exAnd = true := by decide +kernel
theorem ex_ev : evalB (valR o5) (isL t1) = true := by decide +kernel
theorem ex_ev0 : evalB (valR []) exAnd = false := by decide +kernel
theorem ex_dj : djP (isL t1) exNot = (true, 0) := by decide +kernel
def exB (r : Option (List K)) : Bool := match r with | some [a, b] => sameT (toT b) [t3] | _ => false
theorem ex_cb : exB (listO exOr) = true := by decide +kernel
theorem ex_two : ∃ a b, listO exOr = some [a, b] ∧ toT b = [t3] := by
  have h := ex_cb
  unfold exB at h
  split at h
  · next a b e => exact ⟨a, b, e, (sameT_iff _ _).1 h⟩
  · cases h
end Go.Proofs.Ytmobmpghpdaddaa
