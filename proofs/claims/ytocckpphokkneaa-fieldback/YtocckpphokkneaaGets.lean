/-
  The chapter's examples; the walk of the law FieldGets.
-/
import Derived.Test.YtocckpphokkneaaRefGet
namespace Go.Proofs.Ytocckpphokkneaa
open Go.ChangeShapes Go.WideShapes Go.ChangeAt Go.RowKit

def noBytes : ByteArray := ⟨#[]⟩
def odd : Sn := ⟨0, 0, 0, 0, 0, 34997, 0, 0, 0, 0, 0, 0, noBytes⟩
theorem odd_wf : Wf odd := by constructor <;> decide

set_option maxHeartbeats 1000000 in
theorem awake_any (w : World) : Calls Try.prog 13 #[] w fun x w' => x = .returned (.bool true) ∧ Below w.heap.size w w' := by
  have HG : Hid (∀ w, Calls Try.prog 8 #[snV odd, .int .i64 5] w fun e w' => e = .returned (.tuple #[.int .u64 0, .int .i64 20]) ∧ Below w.heap.size w w') := fun w => get_any odd 5 w odd_wf
  have HW : Hid (∀ w, Calls Try.prog 11 #[.int .i64 3] w fun e w' => e = .returned (.int .i64 13) ∧ w' = w) := fun w => width_any 3 w
  go_enter Try.func13, Try.ntmps13
  go_wp2_with fail
  refine (HG.out _).mono ?_
  rintro x w1 ⟨rfl, g1⟩
  go_wp2_with fail
  refine (HW.out _).mono ?_
  rintro x w2 ⟨rfl, rfl⟩
  go_wp2_with fail
  go_ret
  exact ⟨rfl, g1⟩

set_option maxHeartbeats 1000000 in
theorem gets_of (s : Sn) (f v e k : Int) (w : World)
    (HG : Hid (∀ w, Calls Try.prog 8 #[snV s, .int .i64 f] w fun x w' => x = .returned (.tuple #[.int .u64 v, .int .i64 e]) ∧ Below w.heap.size w w'))
    (HR : Hid (∀ w, Calls Try.prog 9 #[snV s, .int .i64 f] w fun x w' => x = .returned (.tuple #[.int .u64 v, .int .i64 e]) ∧ Below w.heap.size w w'))
    (HW : Hid (∀ w, Calls Try.prog 11 #[.int .i64 f] w fun x w' => x = .returned (.int .i64 k) ∧ w' = w))
    (HV : Hid (∀ w, Calls Try.prog 12 #[.int .i64 f] w fun x w' => x = .returned (.int .i64 k) ∧ Below w.heap.size w w')) :
    Calls Try.prog 3 #[snV s, .int .i64 f] w fun x w' => x = .returned (.bool true) ∧ Below w.heap.size w w' := by
  go_enter Try.func3, Try.ntmps3
  go_wp2_with fail
  refine (HG.out _).mono ?_
  rintro x w1 ⟨rfl, g1⟩
  have hc := (Bx.new w s).below (by simp) g1
  obtain ⟨h0, h1, h2, h3, h4, h5, h6, h7, h8, h9, h10, h11, h12⟩ := hc
  go_wp2_with fail
  refine (plain_any s _).mono ?_
  rintro x w2 ⟨rfl, g2⟩
  go_wp2_with fail
  refine (HR.out _).mono ?_
  rintro x w3 ⟨rfl, g3⟩
  go_wp2_with fail
  refine (HW.out _).mono ?_
  rintro x w4 ⟨rfl, rfl⟩
  go_wp2_with fail
  refine (HV.out _).mono ?_
  rintro x w5 ⟨rfl, g5⟩
  go_wp2_with fail
  refine (awake_any _).mono ?_
  rintro x w6 ⟨rfl, g6⟩
  go_wp2_with fail
  go_ret
  exact ⟨rfl, btr (btr (btr (btr (btr (by go_grown) g1 (by simp)) g2 (Nat.le_refl _)) g3 (Nat.le_refl _)) g5 (Nat.le_refl _)) g6 (Nat.le_refl _)⟩
theorem gets_walk (s : Sn) (f : Int) (w : World) (hw : Wf s) (_ : s.data.size ≤ maxLen) (_ : (Lit.int .i64 f).wf = true) :
    Calls Try.prog 3 #[snV s, .int .i64 f] w fun x w' => x = .returned (.bool true) ∧ Below w.heap.size w w' :=
  gets_of s f _ _ _ w (fun w => get_any s f w hw) (fun w => rget_any s f w hw) (fun w => width_any f w) (fun w => rwidth_any f w)
end Go.Proofs.Ytocckpphokkneaa
