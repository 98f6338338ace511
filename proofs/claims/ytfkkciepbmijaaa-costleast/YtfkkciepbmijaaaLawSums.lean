/-
  CostSums: what a row comes to; the law's function, walked.
-/
import Derived.Test.YtfkkciepbmijaaaLawOrders
namespace Go.Proofs.Ytfkkciepbmijaaa
open Go.ChangeShapes Go.WideShapes Go.ChangeAt Go.RowKit
set_option linter.unusedVariables false

/-- The law's floats: a row of its own. -/
theorem floats_in (a : Option Addr) (l : List Nat) (cap : Nat) (w : World) (hs : Us w a l) (hl : l.length < 17592186044416) :
    Calls Try.prog 19 #[.slice a l.length cap] w fun e w' => ∃ a' c', e = .returned (.slice a' l.length c') ∧ Fs w' a' l ∧ OwnF w.heap.size w' (.slice a' l.length c') l ∧ Below w.heap.size w w' :=
  (floats_any a l cap w hs hl).mono fun e w' ⟨v, h1, h2, h3⟩ => by
    obtain ⟨a', c', rfl, h4⟩ := own_sl h2
    exact ⟨a', c', h1, h4, h2, h3⟩
set_option maxRecDepth 20000 in
set_option maxHeartbeats 4000000 in
theorem sums_walk (a : Option Addr) (l : List Nat) (cap : Nat) (w : World) (hs : Us w a l) (hw : W64 l) (hl : l.length < 17592186044416) : Calls Try.prog 5 #[.slice a l.length cap] w fun e w' => e = .returned (.bool true) ∧ Below w.heap.size w w' := by
  have HAw : Hid (∀ u, Below w.heap.size w u → Calls Try.prog 14 #[] u fun e w' => e = .returned (.bool true) ∧ Below w.heap.size w w') := awake_in w
  have HF : Hid (Calls Try.prog 19 #[.slice a l.length cap] w fun e w' => ∃ a' c', e = .returned (.slice a' l.length c') ∧ Fs w' a' l ∧ OwnF w.heap.size w' (.slice a' l.length c') l ∧ Below w.heap.size w w') := floats_in a l cap w hs hl
  have HS : Hid (∀ a' c' u, Fs u a' l → Calls Try.prog 18 #[.slice a' l.length c'] u fun e w' => e = .returned (.float .f64 (sumL l)) ∧ w' = u) := (show ∀ a' c' u, _ from fun a' c' u h => sum_any a' l c' u h hw (by omega))
  have HR : Hid (∀ u, Below w.heap.size w u → Calls Try.prog 20 #[.slice a l.length cap] u fun e w' => e = .returned (.int .u64 (sumL l : Nat)) ∧ w' = u) := (show ∀ u, _ from fun u k => rsum_any a l cap u (hs.below k) hw (by omega))
  have hg := fun (n : Nat) w => bits_run n w
  clear hs hw hl
  generalize sumL l = s at *
  go_enter Try.func5, Try.ntmps5
  go_wp2_with (first
    | (go_at_call 19; refine HF.out.mono ?_; rintro r u ⟨a', c', rfl, k1, _, k2⟩; have K1 : Hid (Fs u a' l) := k1; have K2 : Hid (Below w.heap.size w u) := k2; clear k1 k2)
    | (go_at_call 18; refine (HS.out _ _ _ K1.out).mono ?_; rintro r u2 ⟨rfl, z⟩; obtain rfl : u = u2 := z.symm; clear z)
    | (go_at_call 20; refine (HR.out _ K2.out).mono ?_; rintro r u2 ⟨rfl, z⟩; obtain rfl : u = u2 := z.symm; clear z)
    | (go_at_call 14; refine (HAw.out _ K2.out).mono ?_; rintro r u2 ⟨rfl, hb⟩; have HB2 : Hid (Below w.heap.size w u2) := hb; clear hb))
  go_ret
  exact ⟨rfl, HB2.out⟩
end Go.Proofs.Ytfkkciepbmijaaa
