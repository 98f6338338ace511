/-
  The document's sum: Add, walked.
-/
import Derived.Test.YtfkkciepbmijaaaRefF
namespace Go.Proofs.Ytfkkciepbmijaaa
open Go.ChangeShapes Go.WideShapes Go.ChangeAt Go.RowKit
set_option linter.unusedVariables false

set_option maxHeartbeats 1000000 in
theorem radd_no (a b : Nat) (ha : a < 2 ^ 64) (hb : b < 2 ^ 64) (h : rightB a = false ∨ rightB b = false) (w : World) : Calls Try.prog 17 #[.int .u64 a, .int .u64 b] w fun e w' => e = .returned (.int .u64 (infR : Nat)) ∧ w' = w := by
  have na := rright_any a ha w
  have nb := rright_any b hb w
  cases r1 : rightB a
  · rw [r1] at na
    clear r1 h
    go_enter Try.func17, Try.ntmps17
    go_wp2_with (go_at_call_of 11 (Value.int IntKind.u64 (a : Int)); refine na.mono ?_; rintro e w' ⟨rfl, rfl⟩)
    go_ret
    exact ⟨rfl, rfl⟩
  · have r2 : rightB b = false := by
      rcases h with h | h
      · rw [r1] at h; cases h
      · exact h
    rw [r1] at na
    rw [r2] at nb
    clear r1 r2 h
    go_enter Try.func17, Try.ntmps17
    go_wp2_with (first | (go_at_call_of 11 (Value.int IntKind.u64 (a : Int)); refine na.mono ?_; rintro e w' ⟨rfl, rfl⟩) | (go_at_call_of 11 (Value.int IntKind.u64 (b : Int)); refine nb.mono ?_; rintro e w' ⟨rfl, rfl⟩))
    go_ret
    exact ⟨rfl, rfl⟩
set_option maxRecDepth 20000 in
set_option maxHeartbeats 16000000 in
theorem radd_yes (a b : Nat) (ha : a < 2 ^ 64) (hb : b < 2 ^ 64) (ra : rightB a = true) (rb : rightB b = true) (w : World) : Calls Try.prog 17 #[.int .u64 a, .int .u64 b] w fun e w' => e = .returned (.int .u64 (addB a b : Nat)) ∧ w' = w := by
  have na := rright_any a ha w
  have nb := rright_any b hb w
  rw [ra] at na
  rw [rb] at nb
  have wa := whole_any a ha w
  have wb := whole_any b hb w
  rw [add_of a b ra rb]
  have hra := (rung_right ra).2.1
  have hrb := (rung_right rb).2.1
  clear ra rb
  have e1 := ref_add (a % 2 ^ 63) (b % 2 ^ 63)
  have e2 := ref_add' (a % 2 ^ 63) (b % 2 ^ 63)
  have b1 := whM_lt (a % 2 ^ 63)
  have b2 := whM_lt (b % 2 ^ 63)
  have b3 := whE_ge (a % 2 ^ 63)
  have b4 := whE_ge (b % 2 ^ 63)
  have b5 := whE_lt _ hra
  have b6 := whE_lt _ hrb
  generalize rnd (vl (a % 2 ^ 63) + vl (b % 2 ^ 63)) = R at *
  generalize whM (a % 2 ^ 63) = m at *
  generalize whE (a % 2 ^ 63) = e at *
  generalize whM (b % 2 ^ 63) = n at *
  generalize whE (b % 2 ^ 63) = f at *
  clear hra hrb
  by_cases hs : (e : Int) < (f : Int)
  · obtain ⟨A, B, d, T, S, f1, f2, f3, f4, f5, f6, f7, f8, f9⟩ := facts n f m e b3 (by omega) b6 b2 b1
    rw [e2 (by omega)] at f9
    have nd := down_any B d f4 f5 w
    rw [f6] at nd
    clear f6 e1 e2
    rcases f9 with ⟨g1, g2, g3⟩ | ⟨g1, S1, E1, g2, g3, g4, g5, g6, g7⟩
    · obtain ⟨q, r, g, h, Q, o, t1, t2, t3, t4, t5, t6, t7⟩ := tail S f g2 (by omega) (by omega)
      rw [g3] at t7
      have gg : decide ((9223372036854775808 : Int) ≤ (S : Int)) = false := decide_eq_false g1
      clear g1 g2 g3 f4 f5 f8 ha hb b1 b2 b3 b4 b5 b6
      rcases t6 with ⟨u1, u2⟩ | ⟨u1, u2, u3, u4⟩ | ⟨u1, u2, u3, u4⟩ | ⟨u1, u2, u4⟩ <;> rcases t7 with ⟨v1, v2⟩ | ⟨v1, v2⟩ <;>
      · subst v2
        try subst u4
        go_enter Try.func17, Try.ntmps17
        go_wp2_with (first | (go_at_call_of 11 (Value.int IntKind.u64 (a : Int)); refine na.mono ?_; rintro e w' ⟨rfl, rfl⟩) | (go_at_call_of 11 (Value.int IntKind.u64 (b : Int)); refine nb.mono ?_; rintro e w' ⟨rfl, rfl⟩) | (go_at_call_of 30 (Value.int IntKind.u64 (a : Int)); refine wa.mono ?_; rintro e w' ⟨rfl, rfl⟩) | (go_at_call_of 30 (Value.int IntKind.u64 (b : Int)); refine wb.mono ?_; rintro e w' ⟨rfl, rfl⟩) | (go_at_call_of 31 (Value.int IntKind.u64 (B : Int)); refine nd.mono ?_; rintro e w' ⟨rfl, rfl⟩))
        go_ret
        exact ⟨rfl, rfl⟩
    · have ns := down_any S 1 f8 (by omega) w
      rw [g2] at ns
      obtain ⟨q, r, g, h, Q, o, t1, t2, t3, t4, t5, t6, t7⟩ := tail S1 E1 g6 g4 g5
      rw [g7] at t7
      clear g2 g4 g5 g6 g7 f4 f5 f8 ha hb b1 b2 b3 b4 b5 b6
      rcases t6 with ⟨u1, u2⟩ | ⟨u1, u2, u3, u4⟩ | ⟨u1, u2, u3, u4⟩ | ⟨u1, u2, u4⟩ <;> rcases t7 with ⟨v1, v2⟩ | ⟨v1, v2⟩ <;>
      · subst v2
        try subst u4
        go_enter Try.func17, Try.ntmps17
        go_wp2_with (first | (go_at_call_of 11 (Value.int IntKind.u64 (a : Int)); refine na.mono ?_; rintro e w' ⟨rfl, rfl⟩) | (go_at_call_of 11 (Value.int IntKind.u64 (b : Int)); refine nb.mono ?_; rintro e w' ⟨rfl, rfl⟩) | (go_at_call_of 30 (Value.int IntKind.u64 (a : Int)); refine wa.mono ?_; rintro e w' ⟨rfl, rfl⟩) | (go_at_call_of 30 (Value.int IntKind.u64 (b : Int)); refine wb.mono ?_; rintro e w' ⟨rfl, rfl⟩) | (go_at_call_of 31 (Value.int IntKind.u64 (B : Int)); refine nd.mono ?_; rintro e w' ⟨rfl, rfl⟩) | (go_at_call_of 31 (Value.int IntKind.u64 (S : Int)); refine ns.mono ?_; rintro e w' ⟨rfl, rfl⟩))
        go_ret
        exact ⟨rfl, rfl⟩
  · obtain ⟨A, B, d, T, S, f1, f2, f3, f4, f5, f6, f7, f8, f9⟩ := facts m e n f b4 (by omega) b5 b1 b2
    rw [e1 (by omega)] at f9
    have nd := down_any B d f4 f5 w
    rw [f6] at nd
    clear f6 e1 e2
    rcases f9 with ⟨g1, g2, g3⟩ | ⟨g1, S1, E1, g2, g3, g4, g5, g6, g7⟩
    · obtain ⟨q, r, g, h, Q, o, t1, t2, t3, t4, t5, t6, t7⟩ := tail S e g2 (by omega) (by omega)
      rw [g3] at t7
      have gg : decide ((9223372036854775808 : Int) ≤ (S : Int)) = false := decide_eq_false g1
      clear g1 g2 g3 f4 f5 f8 ha hb b1 b2 b3 b4 b5 b6
      rcases t6 with ⟨u1, u2⟩ | ⟨u1, u2, u3, u4⟩ | ⟨u1, u2, u3, u4⟩ | ⟨u1, u2, u4⟩ <;> rcases t7 with ⟨v1, v2⟩ | ⟨v1, v2⟩ <;>
      · subst v2
        try subst u4
        go_enter Try.func17, Try.ntmps17
        go_wp2_with (first | (go_at_call_of 11 (Value.int IntKind.u64 (a : Int)); refine na.mono ?_; rintro e w' ⟨rfl, rfl⟩) | (go_at_call_of 11 (Value.int IntKind.u64 (b : Int)); refine nb.mono ?_; rintro e w' ⟨rfl, rfl⟩) | (go_at_call_of 30 (Value.int IntKind.u64 (a : Int)); refine wa.mono ?_; rintro e w' ⟨rfl, rfl⟩) | (go_at_call_of 30 (Value.int IntKind.u64 (b : Int)); refine wb.mono ?_; rintro e w' ⟨rfl, rfl⟩) | (go_at_call_of 31 (Value.int IntKind.u64 (B : Int)); refine nd.mono ?_; rintro e w' ⟨rfl, rfl⟩))
        go_ret
        exact ⟨rfl, rfl⟩
    · have ns := down_any S 1 f8 (by omega) w
      rw [g2] at ns
      obtain ⟨q, r, g, h, Q, o, t1, t2, t3, t4, t5, t6, t7⟩ := tail S1 E1 g6 g4 g5
      rw [g7] at t7
      clear g2 g4 g5 g6 g7 f4 f5 f8 ha hb b1 b2 b3 b4 b5 b6
      rcases t6 with ⟨u1, u2⟩ | ⟨u1, u2, u3, u4⟩ | ⟨u1, u2, u3, u4⟩ | ⟨u1, u2, u4⟩ <;> rcases t7 with ⟨v1, v2⟩ | ⟨v1, v2⟩ <;>
      · subst v2
        try subst u4
        go_enter Try.func17, Try.ntmps17
        go_wp2_with (first | (go_at_call_of 11 (Value.int IntKind.u64 (a : Int)); refine na.mono ?_; rintro e w' ⟨rfl, rfl⟩) | (go_at_call_of 11 (Value.int IntKind.u64 (b : Int)); refine nb.mono ?_; rintro e w' ⟨rfl, rfl⟩) | (go_at_call_of 30 (Value.int IntKind.u64 (a : Int)); refine wa.mono ?_; rintro e w' ⟨rfl, rfl⟩) | (go_at_call_of 30 (Value.int IntKind.u64 (b : Int)); refine wb.mono ?_; rintro e w' ⟨rfl, rfl⟩) | (go_at_call_of 31 (Value.int IntKind.u64 (B : Int)); refine nd.mono ?_; rintro e w' ⟨rfl, rfl⟩) | (go_at_call_of 31 (Value.int IntKind.u64 (S : Int)); refine ns.mono ?_; rintro e w' ⟨rfl, rfl⟩))
        go_ret
        exact ⟨rfl, rfl⟩
theorem radd_any (a b : Nat) (ha : a < 2 ^ 64) (hb : b < 2 ^ 64) (w : World) : Calls Try.prog 17 #[.int .u64 a, .int .u64 b] w fun e w' => e = .returned (.int .u64 (addB a b : Nat)) ∧ w' = w := by
  by_cases h : rightB a = true ∧ rightB b = true
  · exact radd_yes a b ha hb h.1 h.2 w
  · have h' : rightB a = false ∨ rightB b = false := by cases h1 : rightB a <;> cases h2 : rightB b <;> simp_all
    rw [add_no a b h']
    exact radd_no a b ha hb h' w
end Go.Proofs.Ytfkkciepbmijaaa
