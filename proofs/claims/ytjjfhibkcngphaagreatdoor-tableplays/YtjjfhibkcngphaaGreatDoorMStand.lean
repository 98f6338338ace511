/-
  What mayStand, rightBehind and Right answer, as contracts.
-/
import Derived.Test.YtjjfhibkcngphaaGreatDoorMRight
namespace Go.Proofs.YtjjfhibkcngphaaGreatDoor.Mt
open Go.ChangeShapes Go.WideShapes Go.ChangeAt Go.RowKit

set_option maxHeartbeats 2000000 in
theorem stand_true (f : Int) (v : Value) (w : World) (h : ¬ (5 ≤ f ∧ f ≤ 9)) : Calls Tryz.prog 83 #[.int .i64 f, v] w fun e w' => e = .returned (.bool true) ∧ Below w.heap.size w w' := by
  have b5 : (f == 5) = false := by rw [beq_eq_false_iff_ne]; omega
  have b6 : (f == 6) = false := by rw [beq_eq_false_iff_ne]; omega
  have b7 : (f == 7) = false := by rw [beq_eq_false_iff_ne]; omega
  have b8 : (f == 8) = false := by rw [beq_eq_false_iff_ne]; omega
  have b9 : (f == 9) = false := by rw [beq_eq_false_iff_ne]; omega
  clear h
  go_enter Tryz.func83, Tryz.ntmps83
  go_wp2
  go_ret
  exact ⟨rfl, by go_grown⟩
theorem gr4 : grV 4 = 65535 := rfl
theorem gr7 : grV 7 = 255 := rfl
set_option maxHeartbeats 4000000 in
theorem stand_inner (f : Int) (a : Option Addr) (l : List T) (cap : Nat) (w : World) (h : Ts w a l) (hl : l.length ≤ 100000) (hf : 5 ≤ f ∧ f ≤ 7) :
    Calls Tryz.prog 83 #[.int .i64 f, .slice a l.length cap] w fun e w' => e = .returned (.bool (hasT l (4, 2048, 65535))) ∧ Below w.heap.size w w' := by
  have HW : Hid (∀ w, Calls Tryz.prog 94 #[.int .i64 4, .int .u64 2048] w fun e w' => e = .returned (tV (4, 2048, 65535)) ∧ Below w.heap.size w w') := fun w => whole_any 4 2048 w
  have HC : Hid (∀ t w, Ts w a l → Calls Tryz.prog 93 #[.slice a l.length cap, tV t] w fun e w' => e = .returned (.bool (hasT l t)) ∧ Below w.heap.size w w') := fun t w h => contains_any a l cap t w h hl
  have hcl : f = 5 ∨ f = 6 ∨ f = 7 := by omega
  rcases hcl with rfl | rfl | rfl
  all_goals
    clear hf
    go_enter Tryz.func83, Tryz.ntmps83
    go_wp2_with fail
    refine (HW.out _).mono ?_
    rintro x w1 ⟨rfl, g1⟩
    go_wp2_with fail
    refine (HC.out _ _ (h.below g1)).mono ?_
    rintro x w2 ⟨rfl, g2⟩
    go_wp2_with fail
    go_ret
    exact ⟨rfl, btr g1 g2 (Nat.le_refl _)⟩
set_option maxHeartbeats 4000000 in
theorem stand_ports (f : Int) (a : Option Addr) (l : List T) (cap : Nat) (w : World) (h : Ts w a l) (hl : l.length ≤ 100000) (hf : f = 8 ∨ f = 9) :
    Calls Tryz.prog 83 #[.int .i64 f, .slice a l.length cap] w fun e w' => e = .returned (.bool (hasT l (7, 6, 255) || hasT l (7, 17, 255))) ∧ Below w.heap.size w w' := by
  have HW : Hid (∀ v w, Calls Tryz.prog 94 #[.int .i64 7, .int .u64 v] w fun e w' => e = .returned (tV (7, v, 255)) ∧ Below w.heap.size w w') := fun v w => whole_any 7 v w
  have HC : Hid (∀ t b w, hasT l t = b → Ts w a l → Calls Tryz.prog 93 #[.slice a l.length cap, tV t] w fun e w' => e = .returned (.bool b) ∧ Below w.heap.size w w') := fun t b w hb h => hb ▸ contains_any a l cap t w h hl
  rcases hf with rfl | rfl
  all_goals
    cases hb : hasT l (7, 6, 255)
    · go_enter Tryz.func83, Tryz.ntmps83
      go_wp2_with fail
      refine (HW.out _ _).mono ?_
      rintro x w1 ⟨rfl, g1⟩
      go_wp2_with fail
      refine (HC.out _ _ _ hb (h.below g1)).mono ?_
      rintro x w2 ⟨rfl, g2⟩
      go_wp2_with fail
      refine (HW.out _ _).mono ?_
      rintro x w3 ⟨rfl, g3⟩
      go_wp2_with fail
      refine (HC.out _ _ _ rfl (((h.below g1).below g2).below g3)).mono ?_
      rintro x w4 ⟨rfl, g4⟩
      go_wp2_with fail
      go_ret
      exact ⟨rfl, btr (btr (btr g1 g2 (Nat.le_refl _)) g3 (Nat.le_refl _)) g4 (Nat.le_refl _)⟩
    · go_enter Tryz.func83, Tryz.ntmps83
      go_wp2_with fail
      refine (HW.out _ _).mono ?_
      rintro x w1 ⟨rfl, g1⟩
      go_wp2_with fail
      refine (HC.out _ _ _ hb (h.below g1)).mono ?_
      rintro x w2 ⟨rfl, g2⟩
      go_wp2_with fail
      go_ret
      exact ⟨rfl, btr g1 g2 (Nat.le_refl _)⟩
theorem stand_any (f : Int) (a : Option Addr) (l : List T) (cap : Nat) (w : World) (h : Ts w a l) (hl : l.length ≤ 100000) :
    Calls Tryz.prog 83 #[.int .i64 f, .slice a l.length cap] w fun e w' => e = .returned (.bool (standB f l)) ∧ Below w.heap.size w w' := by
  unfold standB
  by_cases h1 : 5 ≤ f ∧ f ≤ 7
  · rw [if_pos h1]; exact stand_inner f a l cap w h hl h1
  · rw [if_neg h1]
    by_cases h2 : f = 8 ∨ f = 9
    · rw [if_pos h2]; exact stand_ports f a l cap w h hl h2
    · rw [if_neg h2]; exact stand_true f _ w (by omega)
end Go.Proofs.YtjjfhibkcngphaaGreatDoor.Mt
