/-
  The law MatchTakes answers true, of any tests and any packet.
-/
import Derived.Test.YtjmnnjhaiecglaaDoorRTakes
import Derived.Test.YtjmnnjhaiecglaaDoorEncode
namespace Go.Proofs.YtjmnnjhaiecglaaDoor
open Go.ChangeShapes Go.WideShapes Go.ChangeAt Go.RowKit

set_option maxHeartbeats 8000000 in
theorem lawTakes_walk (a : Option Addr) (l : List T) (cap : Nat) (s : Sn) (w : World) (h : Ts w a l) (_ : l.length ≤ cap) (_ : TWs l) (hw : Wf s) (hd : Cd w) :
    Calls Tryd.prog 4 #[.slice a l.length cap, snV s] w fun e w' => e = .returned (.bool true) ∧ Below w.heap.size w w' := by
  have HA : Hid (∀ w, Cd w → Calls Tryd.prog 11 #[] w fun e w' => e = .returned (.bool true) ∧ Below w.heap.size w w') := fun w hd => awake_any w hd
  have hDn : ∀ n : GrT (bx w s), Cd n.w := fun n => (hd.alloc _).below n.h
  have hTn : ∀ n : GrT (bx w s), Ts n.w a l := fun n => (h.alloc _).below n.h
  have q : ∀ n : GrT (bx w s), Bx n.w w.heap.size s := fun n => (Bx.new w s).below (by simp) n.h
  have q0 := fun n => (q n).1
  have q1 := fun n => (q n).2.1
  have q2 := fun n => (q n).2.2.1
  have q3 := fun n => (q n).2.2.2.1
  have q4 := fun n => (q n).2.2.2.2.1
  have q5 := fun n => (q n).2.2.2.2.2.1
  have q6 := fun n => (q n).2.2.2.2.2.2.1
  have q7 := fun n => (q n).2.2.2.2.2.2.2.1
  have q8 := fun n => (q n).2.2.2.2.2.2.2.2.1
  have q9 := fun n => (q n).2.2.2.2.2.2.2.2.2.1
  have q10 := fun n => (q n).2.2.2.2.2.2.2.2.2.2.1
  have q11 := fun n => (q n).2.2.2.2.2.2.2.2.2.2.2.1
  have q12 := fun n => (q n).2.2.2.2.2.2.2.2.2.2.2.2
  clear q
  by_cases hl : l.length ≤ 40
  · have H1 : Hid (∀ w, Ts w a l → Calls Tryd.prog 12 #[.slice a l.length cap, snV s] w fun e w' => e = .returned (.bool (takesB l s)) ∧ Below w.heap.size w w') := fun w h => takes_any a l cap s w h (by omega) hw
    have H2 : Hid (∀ w, Ts w a l → Calls Tryd.prog 13 #[.slice a l.length cap, snV s] w fun e w' => e = .returned (.bool (takesB l s)) ∧ Below w.heap.size w w') := fun w h => rtakes_any a l cap s w h (by omega) hw
    have H3 : Hid (∀ w, Calls Tryd.prog 14 #[snV s] w fun e w' => e = .returned (snV s) ∧ Below w.heap.size w w') := fun w => plain_any s w
    have n1 : decide ((l.length : Int) > 40) = false := by simp; omega
    have n2 : ¬ (l.length : Int) > 40 := by omega
    generalize takesB l s = v at *
    cases v
    all_goals
      go_enter Tryd.func4, Tryd.ntmps4
      go_wp2_with fail
      refine wp_region_grow (by kernel_rfl) (by kernel_rfl) ?_
      repeat (go_big_quiet_step (first | (go_at_call 12; exact quiet_gr (H1.out _ (hTn _))) | (go_at_call 14; exact quiet_gr (H3.out _)) | (go_at_call 13; exact quiet_gr (H2.out _ (hTn _))) | (go_at_call 11; exact quiet_gr (HA.out _ (hDn _)))))
      refine wpQuiet_nil ?_
      rintro w1 hw'
      have g1 := gr_elim hw'
      clear hw'
      go_wp2_with fail
      go_ret
      exact ⟨rfl, btr (by go_grown) g1 (by simp)⟩
  · have n1 : decide ((l.length : Int) > 40) = true := by simp; omega
    have n2 : (l.length : Int) > 40 := by omega
    go_enter Tryd.func4, Tryd.ntmps4
    go_wp2_with fail
    refine wp_region_grow (by kernel_rfl) (by kernel_rfl) ?_
    repeat (go_big_quiet_step (first | (go_at_call 11; exact quiet_gr (HA.out _ (hDn _)))))
    refine wpQuiet_nil ?_
    rintro w1 hw'
    have g1 := gr_elim hw'
    clear hw'
    go_wp2_with fail
    go_ret
    exact ⟨rfl, btr (by go_grown) g1 (by simp)⟩
end Go.Proofs.YtjmnnjhaiecglaaDoor
