/-
  The document's Encode; the law MatchEncodes answers true, of any tests.
-/
import Derived.Test.YtjmnnjhaiecglaaDoorRefB
namespace Go.Proofs.YtjmnnjhaiecglaaDoor
open Go.ChangeShapes Go.WideShapes Go.ChangeAt Go.RowKit

theorem rright0 (a : Option Addr) (l : List T) (cap : Nat) (w : World) (h : Ts w a l) (hl : l.length ≤ 1000) (hw : TWs l) :
    Calls Tryd.prog 10 #[.slice a l.length cap] w fun e w' => e = .returned (.int .i64 (rightE l)) ∧ Below w.heap.size w w' := by
  have := rright_any a l cap w h hl
  rwa [rright_eq l [] hw (by simp [Rises])] at this
set_option maxHeartbeats 4000000 in
theorem rencode_any (a : Option Addr) (l : List T) (cap : Nat) (w : World) (h : Ts w a l) (hl : l.length ≤ 1000) (hw : TWs l) :
    Calls Tryd.prog 22 #[.slice a l.length cap] w fun e w' => e = .returned (.tuple #[.string (encodeS l), .int .i64 (rightE l)]) ∧ Below w.heap.size w w' := by
  have HR : Hid (Calls Tryd.prog 10 #[.slice a l.length cap] w fun e w' => e = .returned (.int .i64 (rightE l)) ∧ Below w.heap.size w w') := rright0 a l cap w h hl hw
  unfold encodeS
  by_cases hr : rightE l = 0
  · rw [if_pos hr]
    have HB : Hid (∀ w, Ts w a l → Calls Tryd.prog 38 #[.slice a l.length cap] w fun e w' => e = .returned (.string (encS l)) ∧ Below w.heap.size w w') := fun w h => rbytes_any a l cap w h hl hw hr
    rw [hr] at HR
    rw [hr]
    clear hr
    generalize encS l = E at *
    go_enter Tryd.func22, Tryd.ntmps22
    go_wp2_with fail
    refine HR.out.mono ?_
    rintro x w1 ⟨rfl, g1⟩
    go_wp2_with fail
    refine (HB.out _ (h.below g1)).mono ?_
    rintro x w2 ⟨rfl, g2⟩
    go_wp2_with fail
    go_ret2
    exact ⟨rfl, btr g1 g2 (Nat.le_refl _)⟩
  · rw [if_neg hr]
    have hb : (rightE l != 0) = true := by simpa using hr
    clear hr
    generalize rightE l = R at *
    go_enter Tryd.func22, Tryd.ntmps22
    go_wp2_with fail
    refine HR.out.mono ?_
    rintro x w1 ⟨rfl, g1⟩
    go_wp2_with fail
    go_ret2
    exact ⟨rfl, g1⟩
set_option maxHeartbeats 4000000 in
theorem lawEncodes_walk (a : Option Addr) (l : List T) (cap : Nat) (w : World) (h : Ts w a l) (hc : l.length ≤ cap) (hw : TWs l) (hd : Cd w) :
    Calls Tryd.prog 6 #[.slice a l.length cap] w fun e w' => e = .returned (.bool true) ∧ Below w.heap.size w w' := by
  have HA : Hid (∀ w, Cd w → Calls Tryd.prog 11 #[] w fun e w' => e = .returned (.bool true) ∧ Below w.heap.size w w') := fun w hd => awake_any w hd
  by_cases hl : l.length ≤ 40
  · have H1 : Hid (Calls Tryd.prog 21 #[.slice a l.length cap] w fun e w' => e = .returned (.tuple #[.string (encodeS l), .int .i64 (rightE l)]) ∧ Below w.heap.size w w') := encode_any a l cap w h (by omega) hc hd hw
    have H2 : Hid (∀ w, Ts w a l → Calls Tryd.prog 22 #[.slice a l.length cap] w fun e w' => e = .returned (.tuple #[.string (encodeS l), .int .i64 (rightE l)]) ∧ Below w.heap.size w w') := fun w h => rencode_any a l cap w h (by omega) hw
    have n1 : ¬ (l.length : Int) > 40 := by omega
    generalize encodeS l = E at *
    generalize rightE l = R at *
    have hq : (E.toList == E.toList) = true := by simp
    go_enter Tryd.func6, Tryd.ntmps6
    go_wp2_with fail
    refine H1.out.mono ?_
    rintro x w1 ⟨rfl, g1⟩
    go_wp2_with fail
    refine (H2.out _ (h.below g1)).mono ?_
    rintro x w2 ⟨rfl, g2'⟩
    have g2 := btr g1 g2' (Nat.le_refl _)
    go_wp2_with fail
    refine (HA.out _ (hd.below g2)).mono ?_
    rintro x w3 ⟨rfl, g3⟩
    go_wp2_with fail
    go_ret
    exact ⟨rfl, btr g2 g3 (Nat.le_refl _)⟩
  · have n1 : (l.length : Int) > 40 := by omega
    go_enter Tryd.func6, Tryd.ntmps6
    go_wp2_with fail
    refine (HA.out _ hd).mono ?_
    rintro x w3 ⟨rfl, g3⟩
    go_wp2_with fail
    go_ret
    exact ⟨rfl, g3⟩
end Go.Proofs.YtjmnnjhaiecglaaDoor
