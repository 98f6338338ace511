/-
  PredEvals, walked.
-/
import Derived.Test.YtmobmpghpdaddaaRefE
import Derived.Test.YtmobmpghpdaddaaLawUse
namespace Go.Proofs.Ytmobmpghpdaddaa
open Go.ChangeShapes Go.WideShapes Go.ChangeAt Go.RowKit
set_option linter.unusedVariables false
set_option linter.unusedSimpArgs false

set_option maxRecDepth 20000 in
set_option maxHeartbeats 4000000 in
theorem evals_walk (ra : Option Addr) (la : List Nd) (ca : Nat) (bv : Option Addr) (vs : List B64) (vc : Nat) (w : World) (hs : Ns w ra la) (hss : ∀ x ∈ la, x.s.length ≤ 9223372036854775807) (hl : la.length ≤ 9223372036854775807) (hlc : la.length ≤ ca) (hv : Vs w bv vs) (hvl : vs.length ≤ 9223372036854775807) (hvc : vs.length ≤ vc) :
    Calls Try.prog 3 #[.agg #[.slice ra la.length ca], .slice bv vs.length vc] w fun e w' => e = .returned (.bool true) ∧ Below w.heap.size w w' := by
  obtain ⟨X, hX⟩ : ∃ X, w.alloc (.cells #[.slice ra la.length ca] 24) = X := ⟨_, rfl⟩
  have gX : Below w.heap.size w X := by rw [← hX]; go_grown
  have cX : X.cell? ⟨w.heap.size, 0, none⟩ = some (.slice ra la.length ca) := by rw [← hX]; simp
  have zX : w.heap.size < X.heap.size := by rw [← hX]; simp
  have HAw : Hid (∀ z : GrT X, Calls Try.prog 13 #[] z.w fun e w' => e = .returned (.bool true) ∧ Below z.w.heap.size z.w w') := (show ∀ z : GrT X, _ from fun z => awake_any z.w)
  have H1 : Hid (∀ z : GrT X, Calls Try.prog 9 #[.agg #[.slice ra la.length ca]] z.w fun e w' => e = .returned (.bool (rightB la)) ∧ Below z.w.heap.size z.w w') := (show ∀ z : GrT X, _ from fun z => right_any ra la ca z.w ((hs.below gX).below z.h) hl hss)
  have H2 : Hid (∀ z : GrT X, Calls Try.prog 10 #[.agg #[.slice ra la.length ca]] z.w fun e w' => e = .returned (.bool (rightB la)) ∧ Below z.w.heap.size z.w w') := (show ∀ z : GrT X, _ from fun z => rright_any ra la ca z.w ((hs.below gX).below z.h) hl hss)
  have H3 : Hid (∀ z : GrT X, Calls Try.prog 11 #[.agg #[.slice ra la.length ca], .slice bv vs.length vc] z.w fun e w' => e = .returned (.bool (evalB (valR vs) la)) ∧ Below z.w.heap.size z.w w') := (show ∀ z : GrT X, _ from fun z => eval_any ra la ca bv vs vc z.w ((hs.below gX).below z.h) ((hv.below gX).below z.h) hl hss)
  have H4 : Hid (∀ z : GrT X, Calls Try.prog 12 #[.agg #[.slice ra la.length ca], .slice bv vs.length vc] z.w fun e w' => e = .returned (.bool (evalB (valR vs) la)) ∧ Below z.w.heap.size z.w w') := (show ∀ z : GrT X, _ from fun z => reval_any ra la ca bv vs vc z.w ((hs.below gX).below z.h) ((hv.below gX).below z.h) hl hss)
  have c0 : ∀ z : GrT X, z.w.cell? ⟨w.heap.size, 0, none⟩ = some (.slice ra la.length ca) := fun z => cell_gr cX zX z
  have HG : Hid (Below w.heap.size w X ∧ w.heap.size < X.heap.size) := ⟨gX, zX⟩
  generalize rightB la = q1 at *
  generalize evalB (valR vs) la = q2 at *
  have b1 : (q1 == q1) = true := by cases q1 <;> rfl
  have b2 : (q2 == q2) = true := by cases q2 <;> rfl
  clear hs hss hl hlc hv hvl hvc gX zX cX
  go_enter Try.func3, Try.ntmps3
  go_wp2_with fail
  refine wp_region_grow (by kernel_rfl) (by kernel_rfl) ?_
  repeat (go_big_quiet_step (first
    | (go_at_call 9; exact quiet_gr (H1.out _))
    | (go_at_call 10; exact quiet_gr (H2.out _))
    | (go_at_call 11; exact quiet_gr (H3.out _))
    | (go_at_call 12; exact quiet_gr (H4.out _))
    | (go_at_call 13; exact quiet_gr (HAw.out _))))
  refine wpQuiet_nil ?_
  rintro w6 hw'
  have g1 := gr_elim hw'
  clear hw'
  have HB6 : Hid (Below w.heap.size w w6) := (show Below _ _ _ from btr HG.out.1 g1 (Nat.le_refl _))
  clear g1 c0
  go_wp2_with fail
  go_ret
  exact ⟨by first | rfl | simp, HB6.out⟩
end Go.Proofs.Ytmobmpghpdaddaa
