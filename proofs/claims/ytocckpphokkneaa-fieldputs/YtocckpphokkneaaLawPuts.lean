/-
  The walk of the law FieldPuts.
-/
import Derived.Test.YtocckpphokkneaaRefPut
namespace Go.Proofs.Ytocckpphokkneaa
open Go.ChangeShapes Go.WideShapes Go.ChangeAt Go.RowKit

set_option maxHeartbeats 4000000 in
theorem puts_of (s t : Sn) (f v e : Int) (w : World)
    (HP : Hid (∀ w, Calls Try.prog 14 #[snV s, .int .i64 f, .int .u64 v] w fun x w' => x = .returned (.tuple #[snV t, .int .i64 e]) ∧ Below w.heap.size w w'))
    (HR : Hid (∀ w, Calls Try.prog 15 #[snV s, .int .i64 f, .int .u64 v] w fun x w' => x = .returned (.tuple #[snV t, .int .i64 e]) ∧ Below w.heap.size w w')) :
    Calls Try.prog 4 #[snV s, .int .i64 f, .int .u64 v] w fun x w' => x = .returned (.bool true) ∧ Below w.heap.size w w' := by
  go_enter Try.func4, Try.ntmps4
  go_wp2_with fail
  refine (HP.out _).mono ?_
  rintro x w1 ⟨rfl, g1⟩
  have A1 : Bx (bx w1 t) w.heap.size s := ((Bx.new w s).below (by simp) g1).below (Nat.lt_of_lt_of_le (by simp) g1.size) (by go_grown)
  have G1 : Below w.heap.size w w1 := btr (by go_grown) g1 (by simp)
  have L1 : w.heap.size + 1 ≤ w1.heap.size := by have := g1.size; simp at this; omega
  clear g1
  obtain ⟨a0, a1, a2, a3, a4, a5, a6, a7, a8, a9, a10, a11, a12⟩ := A1
  go_wp2_with fail
  refine (plain_any s _).mono ?_
  rintro x w2 ⟨rfl, g2⟩
  have B2 := (Bx.new w1 t).below (by simp) g2
  have G2 : Below w.heap.size w w2 := btr (btr G1 (by go_grown) (Nat.le_refl _)) g2 (Nat.le_refl _)
  have L2 : w1.heap.size + 1 ≤ w2.heap.size := by have := g2.size; simp at this; omega
  clear g2 a0 a1 a2 a3 a4 a5 a6 a7 a8 a9 a10 a11 a12
  go_wp2_with fail
  refine (HR.out _).mono ?_
  rintro x w3 ⟨rfl, g3⟩
  have B3 := B2.below (by omega) g3
  have G3 : Below w.heap.size w w3 := btr G2 g3 (Nat.le_refl _)
  have L3 : w1.heap.size + 1 ≤ w3.heap.size := Nat.le_trans L2 g3.size
  clear g3 B2 G1 G2 L2
  go_wp2_with fail
  have ht : ∀ n : GrT (rx w3 t), Bx n.w w1.heap.size t := fun n => (B3.below (by omega) (by go_grown : Below w3.heap.size w3 (rx w3 t))).below (by simp; omega) n.h
  have hr : ∀ n : GrT (rx w3 t), Bx n.w w3.heap.size t := fun n => (Bx.newr w3 t).below (by simp) n.h
  clear B3
  refine wp_region_grow (by kernel_rfl) (by kernel_rfl) ?_
  repeat (go_big_quiet_step (first | (go_at_call 10; exact quiet_gr (plain_any t _)) | (go_at_call 13; exact quiet_gr (awake_any _))))
  refine wpQuiet_nil ?_
  rintro w4 hw'
  have g4 := gr_elim hw'
  clear hw'
  go_wp2_with fail
  go_ret
  exact ⟨rfl, btr (btr G3 (by go_grown) (Nat.le_refl _)) g4 (Nat.le_refl _)⟩
theorem puts_walk (s : Sn) (f v : Int) (w : World) (_ : Wf s) (_ : s.data.size ≤ maxLen) (_ : (Lit.int .i64 f).wf = true) (hv : (Lit.int .u64 v).wf = true) :
    Calls Try.prog 4 #[snV s, .int .i64 f, .int .u64 v] w fun x w' => x = .returned (.bool true) ∧ Below w.heap.size w w' := by
  have h : 0 ≤ v ∧ v < 18446744073709551616 := by simp [Lit.wf, IntKind.min, IntKind.max, IntKind.signed, IntKind.bits] at hv; omega
  exact puts_of s (putS s f v) f v (putE s f v) w (fun w => put_any s f v w h.1) (fun w => rput_any s f v w h.1 h.2)
end Go.Proofs.Ytocckpphokkneaa
