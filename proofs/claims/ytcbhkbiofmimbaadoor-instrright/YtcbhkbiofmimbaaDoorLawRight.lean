/-
  The walk of InstrRight.
-/
import Derived.Test.YtcbhkbiofmimbaaDoorRRight
import Derived.Test.YtcbhkbiofmimbaaDoorESame
namespace Go.Proofs.YtcbhkbiofmimbaaDoor
open Go.ChangeShapes Go.WideShapes Go.ChangeAt Go.RowKit

set_option maxRecDepth 20000 in
set_option maxHeartbeats 8000000 in
theorem right_walk (x : En) (w : World) (h : EIn w x) (hd : Cd w) :
    Calls Tryd.prog 3 #[enV x] w fun e w' => e = .returned (.bool true) ∧ Below w.heap.size w w' := by
  have HA : Hid (∀ w, Cd w → Calls Tryd.prog 11 #[] w fun e w' => e = .returned (.bool true) ∧ Below w.heap.size w w') := (show ∀ w, _ from fun w hd => awake_any w hd)
  have HFw : Hid (∀ w, Calls Tryd.prog 8 #[enV x] w fun e w' => e = .returned (.bool (fewB x)) ∧ Below w.heap.size w w') := (show ∀ w, _ from fun w => few_any x w)
  have q := Bn.gr (Bn.new w x) (by simp)
  have q0 := fun n => (q n).1
  have q1 := fun n => (q n).2.1
  have q2 := fun n => (q n).2.2.1
  have q3 := fun n => (q n).2.2.2.1
  have q4 := fun n => (q n).2.2.2.2.1
  have q5 := fun n => (q n).2.2.2.2.2.1
  have q6 := fun n => (q n).2.2.2.2.2.2.1
  have q7 := fun n => (q n).2.2.2.2.2.2.2.1
  have q8 := fun n => (q n).2.2.2.2.2.2.2.2.1
  have q9 := fun n => (q n).2.2.2.2.2.2.2.2.2
  have HDn : Hid (∀ n : GrT (ex w x), Cd n.w) := (show ∀ n : GrT (ex w x), Cd n.w from fun n => (hd.alloc _).below n.h)
  clear q
  cases hf : fewB x with
  | false =>
    rw [hf] at HFw
    clear h hd hf
    go_enter Tryd.func3, Tryd.ntmps3
    go_wp2_with fail
    refine wp_region_grow (by kernel_rfl) (by kernel_rfl) ?_
    repeat (go_big_quiet_step (first | (go_at_call 8; exact quiet_gr (HFw.out _)) | (go_at_call 11; exact quiet_gr (HA.out _ (HDn.out _)))))
    refine wpQuiet_nil ?_
    rintro w3 hw'
    have g3 := gr_elim hw'
    clear q0 q1 q2 q3 q4 q5 q6 q7 q8 q9 hw'
    go_wp2_with fail
    go_ret
    exact ⟨rfl, btr (by go_grown) g3 (by simp)⟩
  | true =>
    rw [hf] at HFw
    have f := hf
    unfold fewB at f
    simp at f
    have ew : EW w x := ⟨h.a, h.w, by omega, by omega⟩
    have H1 : Hid (∀ n : GrT (ex w x), Calls Tryd.prog 9 #[enV x] n.w fun e w' => e = .returned (.int .i64 (rightX x.sp)) ∧ Below n.w.heap.size n.w w') := (show ∀ n : GrT (ex w x), _ from fun n => rightX_any x n.w ((ew.alloc _).below n.h) ((hd.alloc _).below n.h))
    have H2 : Hid (∀ n : GrT (ex w x), Calls Tryd.prog 10 #[enV x] n.w fun e w' => e = .returned (.int .i64 (rightX x.sp)) ∧ Below n.w.heap.size n.w w') := (show ∀ n : GrT (ex w x), _ from fun n => rrX_any x n.w ((ew.alloc _).below n.h) h.va h.vw h.u.t0 h.u.t1)
    have hq : (rightX x.sp == rightX x.sp) = true := by simp
    clear h hd hf f ew
    generalize rightX x.sp = R at *
    go_enter Tryd.func3, Tryd.ntmps3
    go_wp2_with fail
    refine wp_region_grow (by kernel_rfl) (by kernel_rfl) ?_
    repeat (go_big_quiet_step (first | (go_at_call 8; exact quiet_gr (HFw.out _)) | (go_at_call 9; exact quiet_gr (H1.out _)) | (go_at_call 10; exact quiet_gr (H2.out _)) | (go_at_call 11; exact quiet_gr (HA.out _ (HDn.out _)))))
    refine wpQuiet_nil ?_
    rintro w3 hw'
    have g3 := gr_elim hw'
    clear q0 q1 q2 q3 q4 q5 q6 q7 q8 q9 hw'
    go_wp2_with fail
    go_ret
    exact ⟨rfl, btr (by go_grown) g3 (by simp)⟩
end Go.Proofs.YtcbhkbiofmimbaaDoor
