/-
  The law's awake: some of the chapter's examples come out as they should.
-/
import Derived.Test.YtfkkciepbmijaabOrder
import Derived.Test.YtfkkciepbmijaabSmall
namespace Go.Proofs.Ytfkkciepbmijaab
open Go.ChangeShapes Go.WideShapes Go.ChangeAt Go.RowKit
set_option linter.unusedVariables false

theorem fs_two (u : World) (x y : Nat) : Fs (u.alloc (.cells #[.float .f64 x, .float .f64 y] 27)) (some ⟨u.heap.size, 0, none⟩) [x, y] := by
  refine .inr ⟨u.heap.size, 0, rfl, by simp, fun i hi => ?_⟩
  match i, hi with
  | 0, _ => simp
  | 1, _ => simp
theorem is_two (u : World) (x y : Int) : Is (u.alloc (.cells #[.int .i64 x, .int .i64 y] 3)) (some ⟨u.heap.size, 0, none⟩) [x, y] := by
  refine .inr ⟨u.heap.size, 0, rfl, by simp, fun i hi => ?_⟩
  match i, hi with
  | 0, _ => simp
  | 1, _ => simp
theorem w64_two {x y : Nat} (hx : x < 2 ^ 64) (hy : y < 2 ^ 64) : W64 [x, y] := fun z hz => by
  rcases List.mem_cons.1 hz with h | h
  · rw [h]; exact hx
  · rw [List.mem_singleton.1 h]; exact hy
theorem OrR.is {w w' : World} {b : Nat} {d : List Int} (h : OrR w w' b d) : Is w' (some ⟨b, 0, none⟩) d :=
  .inr ⟨b, 0, rfl, h.lt, fun i hi => by rw [Nat.zero_add, h.cells i hi, at_get d i hi]⟩
theorem ex_order : ordL [4611686018427387904, 4607182418800017408] = [1, 0] := by kernel_rfl
theorem ex_sum : sumL [4602678819172646912, 4598175219545276416] = 4604930618986332160 := by kernel_rfl
theorem ex_least : leastN [4613937818241073152, 4607182418800017408] = 1 := by kernel_rfl
theorem ex_add : addB 4607182418800017408 4611686018427387904 = 4613937818241073152 := by kernel_rfl
theorem ex_right : rightB 4607182418800017408 = true := by kernel_rfl
theorem ex_less : lessB 4607182418800017408 4611686018427387904 = true := by kernel_rfl
theorem ex_more : lessB 4611686018427387904 4607182418800017408 = false := by kernel_rfl
set_option maxRecDepth 20000 in
set_option maxHeartbeats 4000000 in
theorem awake_any (w : World) : Calls Try.prog 9 #[] w fun e w' => e = .returned (.bool true) ∧ Below w.heap.size w w' := by
  have HO : Hid (∀ u, Calls Try.prog 6 #[.slice (some ⟨u.heap.size, 0, none⟩) 2 2] (u.alloc (.cells #[.float .f64 4611686018427387904, .float .f64 4607182418800017408] 27)) fun e w' => ∃ b, e = .returned (.slice (some ⟨b, 0, none⟩) 2 2) ∧ Is w' (some ⟨b, 0, none⟩) [1, 0] ∧ Below u.heap.size u w') := (show ∀ u, _ from fun u => (order_any _ [4611686018427387904, 4607182418800017408] 2 _ (fs_two u _ _) (w64_two (by decide) (by decide)) (by decide)).mono fun e w' ⟨b, h1, h2⟩ => ⟨b, h1, by rw [← ex_order]; exact h2.is, btr' (by go_grown) (h2.bel.mono (by simp))⟩)
  have HS : Hid (∀ u, Calls Try.prog 11 #[.slice (some ⟨u.heap.size, 0, none⟩) 2 2] (u.alloc (.cells #[.float .f64 4602678819172646912, .float .f64 4598175219545276416] 27)) fun e w' => e = .returned (.float .f64 4604930618986332160) ∧ Below u.heap.size u w') := (show ∀ u, _ from fun u => (sum_any _ [4602678819172646912, 4598175219545276416] 2 _ (fs_two u _ _) (w64_two (by decide) (by decide)) (by decide)).mono fun e w' ⟨h1, h2⟩ => ⟨by rw [h1, ex_sum], by rw [h2]; go_grown⟩)
  have HL : Hid (∀ u, Calls Try.prog 8 #[.slice (some ⟨u.heap.size, 0, none⟩) 2 2] (u.alloc (.cells #[.float .f64 4613937818241073152, .float .f64 4607182418800017408] 27)) fun e w' => e = .returned (.int .i64 1) ∧ Below u.heap.size u w') := (show ∀ u, _ from fun u => (least_any _ [4613937818241073152, 4607182418800017408] 2 _ (fs_two u _ _) (w64_two (by decide) (by decide)) (by decide)).mono fun e w' ⟨h1, h2⟩ => ⟨by rw [h1, ex_least], by rw [h2]; go_grown⟩)
  have HI : Hid (∀ u a, Is u a [1, 0] → Calls Try.prog 19 #[.slice a 2 2, .slice (some ⟨u.heap.size, 0, none⟩) 2 2] (u.alloc (.cells #[.int .i64 1, .int .i64 0] 3)) fun e w' => e = .returned (.bool true) ∧ Below u.heap.size u w') := (show ∀ u a, _ from fun u a h => (ints_any a _ [1, 0] [1, 0] 2 2 _ (h.below (by go_grown)) (is_two u _ _) (by decide) (by decide)).mono fun e w' ⟨h1, h2⟩ => ⟨by rw [h1]; rfl, btr' (by go_grown) (h2.mono (by simp))⟩)
  have HR : Hid (∀ u, Calls Try.prog 14 #[.float .f64 4607182418800017408] u fun e w' => e = .returned (.bool true) ∧ w' = u) := (show ∀ u, _ from fun u => (right_any _ (by decide) u).mono fun e w' ⟨h1, h2⟩ => ⟨by rw [h1, ex_right], h2⟩)
  have HA : Hid (∀ u, Calls Try.prog 13 #[.float .f64 4607182418800017408, .float .f64 4611686018427387904] u fun e w' => e = .returned (.float .f64 4613937818241073152) ∧ w' = u) := (show ∀ u, _ from fun u => (add_any _ _ (by decide) (by decide) u).mono fun e w' ⟨h1, h2⟩ => ⟨by rw [h1, ex_add], h2⟩)
  have HLe : Hid (∀ x y u, x < 2 ^ 64 → y < 2 ^ 64 → Calls Try.prog 7 #[.float .f64 x, .float .f64 y] u fun e w' => e = .returned (.bool (lessB x y)) ∧ w' = u) := (show ∀ x y u, _ from fun x y u h1 h2 => less_any x y h1 h2 u)
  have e1 : (binOp .eql 27 (.float .f64 4613937818241073152) (.float .f64 4613937818241073152) : Sem Value) = pure (.bool true) := (binOp_float_cmp_eql _ _ _ _).trans (by kernel_rfl)
  have e2 : (binOp .eql 27 (.float .f64 4604930618986332160) (.float .f64 4604930618986332160) : Sem Value) = pure (.bool true) := (binOp_float_cmp_eql _ _ _ _).trans (by kernel_rfl)
  go_enter Try.func9, Try.ntmps9
  go_wp2_with (first
    | (go_at_call 6; refine (HO.out _).mono ?_; rintro r u1 ⟨b, rfl, k1, k2⟩; have K1 : Hid (Is u1 (some ⟨b, 0, none⟩) [1, 0]) := k1; have B1 : Hid (Below w.heap.size w u1) := k2; clear k1 k2)
    | (go_at_call 14; refine (HR.out _).mono ?_; rintro r u ⟨rfl, rfl⟩)
    | (go_at_call 7; refine (HLe.out _ _ _ (by decide) (by decide)).mono ?_; rintro r u ⟨hr, rfl⟩; (first | rw [ex_less] at hr | rw [ex_more] at hr); subst hr)
    | (go_at_call 13; refine (HA.out _).mono ?_; rintro r u ⟨rfl, rfl⟩)
    | (go_at_call 11; refine (HS.out _).mono ?_; rintro r u2 ⟨rfl, k2⟩; have B2 : Hid (Below _ _ u2) := k2; clear k2)
    | (go_at_call 8; refine (HL.out _).mono ?_; rintro r u3 ⟨rfl, k3⟩; have B3 : Hid (Below _ _ u3) := k3; clear k3)
    | (go_at_call 19; refine (HI.out _ _ ((K1.out.below B2.out).below B3.out)).mono ?_; rintro r u4 ⟨rfl, k4⟩; have B4 : Hid (Below _ _ u4) := k4; clear k4))
  go_ret
  exact ⟨rfl, btr (btr (btr B1.out B2.out (Nat.le_refl _)) B3.out (Nat.le_refl _)) B4.out (Nat.le_refl _)⟩
end Go.Proofs.Ytfkkciepbmijaab
