/-
  State of a switch that has nothing; how it handles an echo, as contracts.
-/
import Derived.Test.YtoklgdpdeghkpaaGreatDoorE7
namespace Go.Proofs.YtoklgdpdeghkpaaGreatDoor
open Go.ChangeShapes Go.WideShapes Go.ChangeAt Go.RowKit
set_option linter.unusedVariables false
set_option linter.unusedSimpArgs false

set_option maxRecDepth 20000 in
set_option maxHeartbeats 8000000 in
theorem state_e (w : World) (d f tb mb lv : Nat) (h : De w d f tb mb lv) : Calls Tryz.prog 8 #[.pointer (some ⟨d, 0, none⟩)] w fun e w' => e = .returned (.string ⟨#[]⟩) ∧ Below w.heap.size w w' := by
  obtain ⟨W1, hW1⟩ : ∃ W1, w.alloc (.cells #[.pointer none, .slice none 0 0] 79) = W1 := ⟨_, rfl⟩
  have g0 : Below w.heap.size w W1 := by rw [← hW1]; go_grown
  have s1 : W1.heap.size = w.heap.size + 1 := by rw [← hW1]; simp
  have b1 : W1.cell? ⟨w.heap.size, 1, none⟩ = some (.slice none 0 0) := by rw [← hW1]; simp
  have D1 := h.below g0
  have HM : Hid (∀ i : Nat, i < 17 → Calls Tryz.prog 20 #[.pointer (some ⟨d, 0, none⟩), .int .i64 i] W1 fun e w' => e = .returned (.bool false) ∧ w' = W1) := (show ∀ i : Nat, _ from fun i hi => hasMeter_e W1 d i D1.me hi)
  have HG : Hid (Calls Tryz.prog 22 #[.pointer (some ⟨tb, 0, none⟩)] W1 fun e w' => e = .returned (.slice none 0 0) ∧ Below w.heap.size w w' ∧ De w' d f tb mb lv ∧ w'.cell? ⟨w.heap.size, 1, none⟩ = some (.slice none 0 0)) := (show Calls _ _ _ _ _ from (glist_e W1 tb mb D1.te).mono fun e w' ⟨h1, h2⟩ => ⟨h1, btr g0 h2 (Nat.le_refl _), D1.below h2, (h2.cell (p := ⟨w.heap.size, 1, none⟩) (by rw [s1]; exact Nat.lt_succ_self _)).trans b1⟩)
  have c1 := D1.gr
  have HW1 : Hid (w.alloc (.cells #[.pointer none, .slice none 0 0] 79) = W1) := hW1
  clear h hW1 g0 s1 b1 D1
  go_enter Tryz.func8, Tryz.ntmps8
  go_wp2_with fail
  rw [HW1.out]
  go_loop [13] (fun i => ∃ k : Nat, k ≤ 17 ∧ i = .int .i64 k) (fun i => 17 - (intOf i).toNat)
  case atStart => exact ⟨0, by omega, rfl⟩
  case round =>
    obtain ⟨k, hk, rfl⟩ := hrel
    by_cases hlt : k < 17
    · go_wp2_with (go_at_call 20; refine (HM.out k hlt).mono ?_; rintro e w' ⟨rfl, rfl⟩)
      go_round
      case rel => exact ⟨k + 1, by omega, by go_num⟩
      case measure => simp [intOf]; omega
    · go_wp2_with fail
      refine HG.out.mono ?_
      rintro e w2 ⟨rfl, G2, D2, b2⟩
      go_wp2_with fail
      go_loop [35] (fun i => i = .int .i64 0) (fun _ => 0)
      case atStart => rfl
      case round =>
        subst hrel
        have c2 := D2.fl
        have c3 := D2.li
        have l1 := D2.l1
        have l2 := D2.l2
        have HF : Hid (∀ i : Nat, i < 8 → Calls Tryz.prog 23 #[.pointer (some ⟨f, 0, none⟩), .int .i64 i] w2 fun e w' => e = .returned (.slice none 0 0) ∧ w' = w2) := (show ∀ i : Nat, _ from fun i hi => flist_e w2 f i D2.fe hi)
        have HS : Hid (Calls Tryz.prog 24 #[.pointer (some ⟨w.heap.size, 0, none⟩)] w2 fun e w' => e = .returned (.string ⟨#[]⟩) ∧ Below w.heap.size w w') := (show Calls _ _ _ _ _ from (bstring_e w2 _ b2).mono fun e w' ⟨h1, h2⟩ => ⟨h1, btr G2 h2 (Nat.le_refl _)⟩)
        clear c1 HG HM
        go_wp2_with fail
        go_loop [44] (fun i => ∃ k : Nat, k ≤ 8 ∧ i = .int .i64 k) (fun i => 8 - (intOf i).toNat)
        case atStart => exact ⟨0, by omega, rfl⟩
        case round =>
          obtain ⟨j, hj, rfl⟩ := hrel
          by_cases hlj : j < 8
          · go_wp2_with (go_at_call 23; refine (HF.out j hlj).mono ?_; rintro e w' ⟨rfl, rfl⟩)
            go_loop [54] (fun i => i = .int .i64 0) (fun _ => 0)
            case atStart => rfl
            case round =>
              subst hrel
              go_wp2_with fail
              go_round
              case rel => exact ⟨j + 1, by omega, by go_num⟩
              case measure => simp [intOf]; omega
          · go_wp2_with fail
            go_loop [10] (fun i => ∃ k : Nat, 1 ≤ k ∧ k ≤ 3 ∧ i = .int .i64 k) (fun i => 3 - (intOf i).toNat)
            case atStart => exact ⟨1, by omega, by omega, rfl⟩
            case round =>
              obtain ⟨m, hm1, hm3, rfl⟩ := hrel
              rcases (show m = 1 ∨ m = 2 ∨ m = 3 by omega) with rfl | rfl | rfl
              · go_wp2_with fail
                go_round
                case rel => exact ⟨2, by omega, by omega, by go_num⟩
                case measure => simp [intOf]
              · go_wp2_with fail
                go_round
                case rel => exact ⟨3, by omega, by omega, by go_num⟩
                case measure => simp [intOf]
              · go_wp2_with fail
                refine HS.out.mono ?_
                rintro e w3 ⟨rfl, g3⟩
                go_wp2_with fail
                go_ret
                exact ⟨rfl, g3⟩
end Go.Proofs.YtoklgdpdeghkpaaGreatDoor
