/-
  The law MatchRight answers true, of any tests.
-/
import Derived.Test.YtjmnnjhaiecglaaDoorRefRight
namespace Go.Proofs.YtjmnnjhaiecglaaDoor
open Go.ChangeShapes Go.WideShapes Go.ChangeAt Go.RowKit

set_option maxHeartbeats 4000000 in
theorem lawRight_walk (a : Option Addr) (l : List T) (cap : Nat) (w : World) (h : Ts w a l) (hc : l.length ≤ cap) (hw : TWs l) (hd : Cd w) :
    Calls Tryd.prog 3 #[.slice a l.length cap] w fun e w' => e = .returned (.bool true) ∧ Below w.heap.size w w' := by
  have HA : Hid (∀ w, Cd w → Calls Tryd.prog 11 #[] w fun e w' => e = .returned (.bool true) ∧ Below w.heap.size w w') := fun w hd => awake_any w hd
  by_cases hl : l.length ≤ 40
  · have HR : Hid (Calls Tryd.prog 9 #[.slice a l.length cap] w fun e w' => e = .returned (.int .i64 (rightE l)) ∧ Below w.heap.size w w') := right_any a l cap w h (by omega) hc
    have HF : Hid (∀ w, Ts w a l → Calls Tryd.prog 10 #[.slice a l.length cap] w fun e w' => e = .returned (.int .i64 (rightE l)) ∧ Below w.heap.size w w') := fun w h => by
      have := rright_any a l cap w h (by omega)
      rwa [rright_eq l [] hw (by simp [Rises])] at this
    have hg : ¬ ((l.length : Int) > 40) := by omega
    generalize rightE l = e at *
    go_enter Tryd.func3, Tryd.ntmps3
    go_wp2_with fail
    refine HR.out.mono ?_
    rintro r w1 ⟨rfl, g1⟩
    go_wp2_with fail
    refine (HF.out _ (h.below g1)).mono ?_
    rintro r w2 ⟨rfl, g2⟩
    have b2 := btr g1 g2 (Nat.le_refl _)
    go_wp2_with fail
    refine (HA.out _ (hd.below b2)).mono ?_
    rintro r w3 ⟨rfl, g3⟩
    go_wp2_with fail
    go_ret
    exact ⟨rfl, btr b2 g3 (Nat.le_refl _)⟩
  · have hg : (l.length : Int) > 40 := by omega
    go_enter Tryd.func3, Tryd.ntmps3
    go_wp2_with fail
    refine (HA.out _ hd).mono ?_
    rintro r w3 ⟨rfl, g3⟩
    go_wp2_with fail
    go_ret
    exact ⟨rfl, g3⟩
end Go.Proofs.YtjmnnjhaiecglaaDoor
