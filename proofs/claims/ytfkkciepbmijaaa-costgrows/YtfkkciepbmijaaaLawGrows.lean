/-
  CostGrows: sums don't mind the order of two, no part is behind them, they grow with their parts; the law's function, walked.
-/
import Derived.Test.YtfkkciepbmijaaaLawOrders
namespace Go.Proofs.Ytfkkciepbmijaaa
open Go.ChangeShapes Go.WideShapes Go.ChangeAt Go.RowKit
set_option linter.unusedVariables false

/-- What a call answers where it leaves the world as it was. -/
abbrev Ans (f : FuncId) (args : Array Value) (v : Value) : Prop := ∀ u, Calls Try.prog f args u fun e w' => e = .returned v ∧ w' = u
theorem grows_kinds (s : Nat) (h : s ≤ infR) : (rightB s = true ∧ (s == infR) = false) ∨ (rightB s = false ∧ (s == infR) = true) := by
  have hI : infR = 9218868437227405312 := rfl
  by_cases e : s = infR
  · subst e; exact .inr ⟨by decide, by simp⟩
  · refine .inl ⟨?_, beq_eq_false_iff_ne.2 e⟩
    unfold rightB
    rw [decide_eq_true (by omega)]
    rfl
set_option maxRecDepth 20000 in
set_option maxHeartbeats 16000000 in
theorem grows_nat (a b c : Nat) (w : World) (ha : a < 2 ^ 64) (hb : b < 2 ^ 64) (hc : c < 2 ^ 64) : Calls Try.prog 8 #[.int .u64 (a : Int), .int .u64 (b : Int), .int .u64 (c : Int)] w fun e w' => e = .returned (.bool true) ∧ Below w.heap.size w w' := by
  have HAw : Hid (∀ u, Below w.heap.size w u → Calls Try.prog 14 #[] u fun e w' => e = .returned (.bool true) ∧ Below w.heap.size w w') := awake_in w
  have hf := fun (n : Nat) w => from_run n w
  have hg := fun (n : Nat) w => bits_run n w
  have HAdd : Hid (∀ x y u, x < 2 ^ 64 → y < 2 ^ 64 → Calls Try.prog 15 #[.float .f64 x, .float .f64 y] u fun e w' => e = .returned (.float .f64 (addB x y)) ∧ w' = u) := (show ∀ x y u, _ from fun x y u h1 h2 => add_any x y h1 h2 u)
  have HL : Hid (∀ x y u, x < 2 ^ 64 → y < 2 ^ 64 → Calls Try.prog 12 #[.float .f64 x, .float .f64 y] u fun e w' => e = .returned (.bool (lessB x y)) ∧ w' = u) := (show ∀ x y u, _ from fun x y u h1 h2 => less_any x y h1 h2 u)
  have HR : Hid (∀ x u, x < 2 ^ 64 → Calls Try.prog 10 #[.float .f64 x] u fun e w' => e = .returned (.bool (rightB x)) ∧ w' = u) := (show ∀ x u, _ from fun x u h => right_any x h u)
  have HIn : Hid (∀ x u, x < 2 ^ 64 → Calls Try.prog 26 #[.float .f64 x, .int .i64 1] u fun e w' => e = .returned (.bool (x == infR)) ∧ w' = u) := (show ∀ x u, _ from fun x u h => isinf_any x h u)
  have HA : Hid (a < 2 ^ 64) := ha
  have HB : Hid (b < 2 ^ 64) := hb
  have HC : Hid (c < 2 ^ 64) := hc
  obtain ⟨s, hs⟩ : ∃ s, addB a b = s := ⟨_, rfl⟩
  obtain ⟨t, ht⟩ : ∃ t, addB a c = t := ⟨_, rfl⟩
  have A1 : Hid (addB a b = s) := hs
  have A2 : Hid (addB b a = s) := (show _ = _ by rw [addB_comm]; exact hs)
  have A3 : Hid (addB a c = t) := ht
  have hI : infR = 9218868437227405312 := rfl
  have hsl : s ≤ infR := by rw [← hs]; exact addB_le _ _
  have HS : Hid (s < 2 ^ 64) := (show _ < _ by omega)
  have HT : Hid (t < 2 ^ 64) := (show _ < _ by have := addB_le a c; omega)
  have key : (rightB a = false ∧ rightB s = false ∧ (s == infR) = true) ∨ (rightB a = true ∧ rightB b = false ∧ rightB s = false ∧ (s == infR) = true) ∨
      ((rightB a = true ∧ rightB b = true ∧ lessB s a = false ∧ lessB s b = false) ∧ ((rightB s = true ∧ (s == infR) = false) ∨ (rightB s = false ∧ (s == infR) = true)) ∧ (rightB c = false ∨ (rightB c = true ∧ lessB c b = true) ∨ (rightB c = true ∧ lessB c b = false ∧ lessB t s = false))) := by
    cases r1 : rightB a
    · have e : s = infR := by rw [← hs]; exact add_no a b (.inl r1)
      exact .inl ⟨rfl, by rw [e]; decide, by rw [e]; simp⟩
    · cases r2 : rightB b
      · have e : s = infR := by rw [← hs]; exact add_no a b (.inr r2)
        exact .inr (.inl ⟨rfl, rfl, by rw [e]; decide, by rw [e]; simp⟩)
      · refine .inr (.inr ⟨⟨rfl, rfl, by rw [← hs]; exact add_ge a b r1 r2, by rw [← hs, addB_comm]; exact add_ge b a r2 r1⟩, grows_kinds s hsl, ?_⟩)
        cases r3 : rightB c
        · exact .inl rfl
        · cases r4 : lessB c b
          · exact .inr (.inr ⟨rfl, rfl, by rw [← hs, ← ht]; exact add_grows a b c r1 r2 r3 r4⟩)
          · exact .inr (.inl ⟨rfl, rfl⟩)
  clear ha hb hc hs ht hI hsl
  have dd : ∀ {x y : Nat} {r : Bool}, lessB x y = r → Hid (lessB x y = r) := fun h => h
  have dr : ∀ {x : Nat} {r : Bool}, rightB x = r → Hid (rightB x = r) := fun h => h
  have di : ∀ {x : Nat} {r : Bool}, (x == infR) = r → Hid ((x == infR) = r) := fun h => h
  rcases key with ⟨k1, k2, k3⟩ | ⟨k0, k1, k2, k3⟩ | ⟨⟨k1, k2, k3, k4⟩, ⟨k5, k6⟩ | ⟨k5, k6⟩, k7 | ⟨k7, k8⟩ | ⟨k7, k8, k9⟩⟩
  · have F0 := dr k1
    have F1 := dr k2
    have F2 := di k3
    clear k1 k2 k3 dd dr di
    go_enter Try.func8, Try.ntmps8
    go_wp2_with (first
      | (go_at_call 15; refine (HAdd.out _ _ _ (by first | exact HA.out | exact HB.out | exact HC.out | exact HS.out | exact HT.out) (by first | exact HA.out | exact HB.out | exact HC.out | exact HS.out | exact HT.out)).mono ?_; rintro r u ⟨hr, z⟩; obtain rfl : w = u := z.symm; clear z; (first | rw [A1.out] at hr | rw [A2.out] at hr | rw [A3.out] at hr); subst hr)
      | (go_at_call 12; refine (HL.out _ _ _ (by first | exact HA.out | exact HB.out | exact HC.out | exact HS.out | exact HT.out) (by first | exact HA.out | exact HB.out | exact HC.out | exact HS.out | exact HT.out)).mono ?_; rintro r u ⟨hr, z⟩; obtain rfl : w = u := z.symm; clear z; (first | rw [F0.out] at hr | rw [F1.out] at hr | rw [F2.out] at hr); subst hr)
      | (go_at_call 10; refine (HR.out _ _ (by first | exact HA.out | exact HB.out | exact HC.out | exact HS.out | exact HT.out)).mono ?_; rintro r u ⟨hr, z⟩; obtain rfl : w = u := z.symm; clear z; (first | rw [F0.out] at hr | rw [F1.out] at hr | rw [F2.out] at hr); subst hr)
      | (go_at_call 26; refine (HIn.out _ _ (by first | exact HA.out | exact HB.out | exact HC.out | exact HS.out | exact HT.out)).mono ?_; rintro r u ⟨hr, z⟩; obtain rfl : w = u := z.symm; clear z; (first | rw [F0.out] at hr | rw [F1.out] at hr | rw [F2.out] at hr); subst hr)
      | (go_at_call 14; refine (HAw.out _ (by first | exact Below.refl _ _ | go_grown)).mono ?_; rintro r u ⟨rfl, hb⟩; have HB2 : Hid (Below w.heap.size w u) := hb; clear hb))
    go_ret
    exact ⟨rfl, HB2.out⟩
  · have F0 := dr k0
    have F1 := dr k1
    have F2 := dr k2
    have F3 := di k3
    clear k0 k1 k2 k3 dd dr di
    go_enter Try.func8, Try.ntmps8
    go_wp2_with (first
      | (go_at_call 15; refine (HAdd.out _ _ _ (by first | exact HA.out | exact HB.out | exact HC.out | exact HS.out | exact HT.out) (by first | exact HA.out | exact HB.out | exact HC.out | exact HS.out | exact HT.out)).mono ?_; rintro r u ⟨hr, z⟩; obtain rfl : w = u := z.symm; clear z; (first | rw [A1.out] at hr | rw [A2.out] at hr | rw [A3.out] at hr); subst hr)
      | (go_at_call 12; refine (HL.out _ _ _ (by first | exact HA.out | exact HB.out | exact HC.out | exact HS.out | exact HT.out) (by first | exact HA.out | exact HB.out | exact HC.out | exact HS.out | exact HT.out)).mono ?_; rintro r u ⟨hr, z⟩; obtain rfl : w = u := z.symm; clear z; (first | rw [F0.out] at hr | rw [F1.out] at hr | rw [F2.out] at hr | rw [F3.out] at hr); subst hr)
      | (go_at_call 10; refine (HR.out _ _ (by first | exact HA.out | exact HB.out | exact HC.out | exact HS.out | exact HT.out)).mono ?_; rintro r u ⟨hr, z⟩; obtain rfl : w = u := z.symm; clear z; (first | rw [F0.out] at hr | rw [F1.out] at hr | rw [F2.out] at hr | rw [F3.out] at hr); subst hr)
      | (go_at_call 26; refine (HIn.out _ _ (by first | exact HA.out | exact HB.out | exact HC.out | exact HS.out | exact HT.out)).mono ?_; rintro r u ⟨hr, z⟩; obtain rfl : w = u := z.symm; clear z; (first | rw [F0.out] at hr | rw [F1.out] at hr | rw [F2.out] at hr | rw [F3.out] at hr); subst hr)
      | (go_at_call 14; refine (HAw.out _ (by first | exact Below.refl _ _ | go_grown)).mono ?_; rintro r u ⟨rfl, hb⟩; have HB2 : Hid (Below w.heap.size w u) := hb; clear hb))
    go_ret
    exact ⟨rfl, HB2.out⟩
  · have F0 := dr k1
    have F1 := dr k2
    have F2 := dd k3
    have F3 := dd k4
    have F4 := dr k5
    have F5 := di k6
    have F6 := dr k7
    clear k1 k2 k3 k4 k5 k6 k7 dd dr di
    go_enter Try.func8, Try.ntmps8
    go_wp2_with (first
      | (go_at_call 15; refine (HAdd.out _ _ _ (by first | exact HA.out | exact HB.out | exact HC.out | exact HS.out | exact HT.out) (by first | exact HA.out | exact HB.out | exact HC.out | exact HS.out | exact HT.out)).mono ?_; rintro r u ⟨hr, z⟩; obtain rfl : w = u := z.symm; clear z; (first | rw [A1.out] at hr | rw [A2.out] at hr | rw [A3.out] at hr); subst hr)
      | (go_at_call 12; refine (HL.out _ _ _ (by first | exact HA.out | exact HB.out | exact HC.out | exact HS.out | exact HT.out) (by first | exact HA.out | exact HB.out | exact HC.out | exact HS.out | exact HT.out)).mono ?_; rintro r u ⟨hr, z⟩; obtain rfl : w = u := z.symm; clear z; (first | rw [F0.out] at hr | rw [F1.out] at hr | rw [F2.out] at hr | rw [F3.out] at hr | rw [F4.out] at hr | rw [F5.out] at hr | rw [F6.out] at hr); subst hr)
      | (go_at_call 10; refine (HR.out _ _ (by first | exact HA.out | exact HB.out | exact HC.out | exact HS.out | exact HT.out)).mono ?_; rintro r u ⟨hr, z⟩; obtain rfl : w = u := z.symm; clear z; (first | rw [F0.out] at hr | rw [F1.out] at hr | rw [F2.out] at hr | rw [F3.out] at hr | rw [F4.out] at hr | rw [F5.out] at hr | rw [F6.out] at hr); subst hr)
      | (go_at_call 26; refine (HIn.out _ _ (by first | exact HA.out | exact HB.out | exact HC.out | exact HS.out | exact HT.out)).mono ?_; rintro r u ⟨hr, z⟩; obtain rfl : w = u := z.symm; clear z; (first | rw [F0.out] at hr | rw [F1.out] at hr | rw [F2.out] at hr | rw [F3.out] at hr | rw [F4.out] at hr | rw [F5.out] at hr | rw [F6.out] at hr); subst hr)
      | (go_at_call 14; refine (HAw.out _ (by first | exact Below.refl _ _ | go_grown)).mono ?_; rintro r u ⟨rfl, hb⟩; have HB2 : Hid (Below w.heap.size w u) := hb; clear hb))
    go_ret
    exact ⟨rfl, HB2.out⟩
  · have F0 := dr k1
    have F1 := dr k2
    have F2 := dd k3
    have F3 := dd k4
    have F4 := dr k5
    have F5 := di k6
    have F6 := dr k7
    have F7 := dd k8
    clear k1 k2 k3 k4 k5 k6 k7 k8 dd dr di
    go_enter Try.func8, Try.ntmps8
    go_wp2_with (first
      | (go_at_call 15; refine (HAdd.out _ _ _ (by first | exact HA.out | exact HB.out | exact HC.out | exact HS.out | exact HT.out) (by first | exact HA.out | exact HB.out | exact HC.out | exact HS.out | exact HT.out)).mono ?_; rintro r u ⟨hr, z⟩; obtain rfl : w = u := z.symm; clear z; (first | rw [A1.out] at hr | rw [A2.out] at hr | rw [A3.out] at hr); subst hr)
      | (go_at_call 12; refine (HL.out _ _ _ (by first | exact HA.out | exact HB.out | exact HC.out | exact HS.out | exact HT.out) (by first | exact HA.out | exact HB.out | exact HC.out | exact HS.out | exact HT.out)).mono ?_; rintro r u ⟨hr, z⟩; obtain rfl : w = u := z.symm; clear z; (first | rw [F0.out] at hr | rw [F1.out] at hr | rw [F2.out] at hr | rw [F3.out] at hr | rw [F4.out] at hr | rw [F5.out] at hr | rw [F6.out] at hr | rw [F7.out] at hr); subst hr)
      | (go_at_call 10; refine (HR.out _ _ (by first | exact HA.out | exact HB.out | exact HC.out | exact HS.out | exact HT.out)).mono ?_; rintro r u ⟨hr, z⟩; obtain rfl : w = u := z.symm; clear z; (first | rw [F0.out] at hr | rw [F1.out] at hr | rw [F2.out] at hr | rw [F3.out] at hr | rw [F4.out] at hr | rw [F5.out] at hr | rw [F6.out] at hr | rw [F7.out] at hr); subst hr)
      | (go_at_call 26; refine (HIn.out _ _ (by first | exact HA.out | exact HB.out | exact HC.out | exact HS.out | exact HT.out)).mono ?_; rintro r u ⟨hr, z⟩; obtain rfl : w = u := z.symm; clear z; (first | rw [F0.out] at hr | rw [F1.out] at hr | rw [F2.out] at hr | rw [F3.out] at hr | rw [F4.out] at hr | rw [F5.out] at hr | rw [F6.out] at hr | rw [F7.out] at hr); subst hr)
      | (go_at_call 14; refine (HAw.out _ (by first | exact Below.refl _ _ | go_grown)).mono ?_; rintro r u ⟨rfl, hb⟩; have HB2 : Hid (Below w.heap.size w u) := hb; clear hb))
    go_ret
    exact ⟨rfl, HB2.out⟩
  · have F0 := dr k1
    have F1 := dr k2
    have F2 := dd k3
    have F3 := dd k4
    have F4 := dr k5
    have F5 := di k6
    have F6 := dr k7
    have F7 := dd k8
    have F8 := dd k9
    clear k1 k2 k3 k4 k5 k6 k7 k8 k9 dd dr di
    go_enter Try.func8, Try.ntmps8
    go_wp2_with (first
      | (go_at_call 15; refine (HAdd.out _ _ _ (by first | exact HA.out | exact HB.out | exact HC.out | exact HS.out | exact HT.out) (by first | exact HA.out | exact HB.out | exact HC.out | exact HS.out | exact HT.out)).mono ?_; rintro r u ⟨hr, z⟩; obtain rfl : w = u := z.symm; clear z; (first | rw [A1.out] at hr | rw [A2.out] at hr | rw [A3.out] at hr); subst hr)
      | (go_at_call 12; refine (HL.out _ _ _ (by first | exact HA.out | exact HB.out | exact HC.out | exact HS.out | exact HT.out) (by first | exact HA.out | exact HB.out | exact HC.out | exact HS.out | exact HT.out)).mono ?_; rintro r u ⟨hr, z⟩; obtain rfl : w = u := z.symm; clear z; (first | rw [F0.out] at hr | rw [F1.out] at hr | rw [F2.out] at hr | rw [F3.out] at hr | rw [F4.out] at hr | rw [F5.out] at hr | rw [F6.out] at hr | rw [F7.out] at hr | rw [F8.out] at hr); subst hr)
      | (go_at_call 10; refine (HR.out _ _ (by first | exact HA.out | exact HB.out | exact HC.out | exact HS.out | exact HT.out)).mono ?_; rintro r u ⟨hr, z⟩; obtain rfl : w = u := z.symm; clear z; (first | rw [F0.out] at hr | rw [F1.out] at hr | rw [F2.out] at hr | rw [F3.out] at hr | rw [F4.out] at hr | rw [F5.out] at hr | rw [F6.out] at hr | rw [F7.out] at hr | rw [F8.out] at hr); subst hr)
      | (go_at_call 26; refine (HIn.out _ _ (by first | exact HA.out | exact HB.out | exact HC.out | exact HS.out | exact HT.out)).mono ?_; rintro r u ⟨hr, z⟩; obtain rfl : w = u := z.symm; clear z; (first | rw [F0.out] at hr | rw [F1.out] at hr | rw [F2.out] at hr | rw [F3.out] at hr | rw [F4.out] at hr | rw [F5.out] at hr | rw [F6.out] at hr | rw [F7.out] at hr | rw [F8.out] at hr); subst hr)
      | (go_at_call 14; refine (HAw.out _ (by first | exact Below.refl _ _ | go_grown)).mono ?_; rintro r u ⟨rfl, hb⟩; have HB2 : Hid (Below w.heap.size w u) := hb; clear hb))
    go_ret
    exact ⟨rfl, HB2.out⟩
  · have F0 := dr k1
    have F1 := dr k2
    have F2 := dd k3
    have F3 := dd k4
    have F4 := dr k5
    have F5 := di k6
    have F6 := dr k7
    clear k1 k2 k3 k4 k5 k6 k7 dd dr di
    go_enter Try.func8, Try.ntmps8
    go_wp2_with (first
      | (go_at_call 15; refine (HAdd.out _ _ _ (by first | exact HA.out | exact HB.out | exact HC.out | exact HS.out | exact HT.out) (by first | exact HA.out | exact HB.out | exact HC.out | exact HS.out | exact HT.out)).mono ?_; rintro r u ⟨hr, z⟩; obtain rfl : w = u := z.symm; clear z; (first | rw [A1.out] at hr | rw [A2.out] at hr | rw [A3.out] at hr); subst hr)
      | (go_at_call 12; refine (HL.out _ _ _ (by first | exact HA.out | exact HB.out | exact HC.out | exact HS.out | exact HT.out) (by first | exact HA.out | exact HB.out | exact HC.out | exact HS.out | exact HT.out)).mono ?_; rintro r u ⟨hr, z⟩; obtain rfl : w = u := z.symm; clear z; (first | rw [F0.out] at hr | rw [F1.out] at hr | rw [F2.out] at hr | rw [F3.out] at hr | rw [F4.out] at hr | rw [F5.out] at hr | rw [F6.out] at hr); subst hr)
      | (go_at_call 10; refine (HR.out _ _ (by first | exact HA.out | exact HB.out | exact HC.out | exact HS.out | exact HT.out)).mono ?_; rintro r u ⟨hr, z⟩; obtain rfl : w = u := z.symm; clear z; (first | rw [F0.out] at hr | rw [F1.out] at hr | rw [F2.out] at hr | rw [F3.out] at hr | rw [F4.out] at hr | rw [F5.out] at hr | rw [F6.out] at hr); subst hr)
      | (go_at_call 26; refine (HIn.out _ _ (by first | exact HA.out | exact HB.out | exact HC.out | exact HS.out | exact HT.out)).mono ?_; rintro r u ⟨hr, z⟩; obtain rfl : w = u := z.symm; clear z; (first | rw [F0.out] at hr | rw [F1.out] at hr | rw [F2.out] at hr | rw [F3.out] at hr | rw [F4.out] at hr | rw [F5.out] at hr | rw [F6.out] at hr); subst hr)
      | (go_at_call 14; refine (HAw.out _ (by first | exact Below.refl _ _ | go_grown)).mono ?_; rintro r u ⟨rfl, hb⟩; have HB2 : Hid (Below w.heap.size w u) := hb; clear hb))
    go_ret
    exact ⟨rfl, HB2.out⟩
  · have F0 := dr k1
    have F1 := dr k2
    have F2 := dd k3
    have F3 := dd k4
    have F4 := dr k5
    have F5 := di k6
    have F6 := dr k7
    have F7 := dd k8
    clear k1 k2 k3 k4 k5 k6 k7 k8 dd dr di
    go_enter Try.func8, Try.ntmps8
    go_wp2_with (first
      | (go_at_call 15; refine (HAdd.out _ _ _ (by first | exact HA.out | exact HB.out | exact HC.out | exact HS.out | exact HT.out) (by first | exact HA.out | exact HB.out | exact HC.out | exact HS.out | exact HT.out)).mono ?_; rintro r u ⟨hr, z⟩; obtain rfl : w = u := z.symm; clear z; (first | rw [A1.out] at hr | rw [A2.out] at hr | rw [A3.out] at hr); subst hr)
      | (go_at_call 12; refine (HL.out _ _ _ (by first | exact HA.out | exact HB.out | exact HC.out | exact HS.out | exact HT.out) (by first | exact HA.out | exact HB.out | exact HC.out | exact HS.out | exact HT.out)).mono ?_; rintro r u ⟨hr, z⟩; obtain rfl : w = u := z.symm; clear z; (first | rw [F0.out] at hr | rw [F1.out] at hr | rw [F2.out] at hr | rw [F3.out] at hr | rw [F4.out] at hr | rw [F5.out] at hr | rw [F6.out] at hr | rw [F7.out] at hr); subst hr)
      | (go_at_call 10; refine (HR.out _ _ (by first | exact HA.out | exact HB.out | exact HC.out | exact HS.out | exact HT.out)).mono ?_; rintro r u ⟨hr, z⟩; obtain rfl : w = u := z.symm; clear z; (first | rw [F0.out] at hr | rw [F1.out] at hr | rw [F2.out] at hr | rw [F3.out] at hr | rw [F4.out] at hr | rw [F5.out] at hr | rw [F6.out] at hr | rw [F7.out] at hr); subst hr)
      | (go_at_call 26; refine (HIn.out _ _ (by first | exact HA.out | exact HB.out | exact HC.out | exact HS.out | exact HT.out)).mono ?_; rintro r u ⟨hr, z⟩; obtain rfl : w = u := z.symm; clear z; (first | rw [F0.out] at hr | rw [F1.out] at hr | rw [F2.out] at hr | rw [F3.out] at hr | rw [F4.out] at hr | rw [F5.out] at hr | rw [F6.out] at hr | rw [F7.out] at hr); subst hr)
      | (go_at_call 14; refine (HAw.out _ (by first | exact Below.refl _ _ | go_grown)).mono ?_; rintro r u ⟨rfl, hb⟩; have HB2 : Hid (Below w.heap.size w u) := hb; clear hb))
    go_ret
    exact ⟨rfl, HB2.out⟩
  · have F0 := dr k1
    have F1 := dr k2
    have F2 := dd k3
    have F3 := dd k4
    have F4 := dr k5
    have F5 := di k6
    have F6 := dr k7
    have F7 := dd k8
    have F8 := dd k9
    clear k1 k2 k3 k4 k5 k6 k7 k8 k9 dd dr di
    go_enter Try.func8, Try.ntmps8
    go_wp2_with (first
      | (go_at_call 15; refine (HAdd.out _ _ _ (by first | exact HA.out | exact HB.out | exact HC.out | exact HS.out | exact HT.out) (by first | exact HA.out | exact HB.out | exact HC.out | exact HS.out | exact HT.out)).mono ?_; rintro r u ⟨hr, z⟩; obtain rfl : w = u := z.symm; clear z; (first | rw [A1.out] at hr | rw [A2.out] at hr | rw [A3.out] at hr); subst hr)
      | (go_at_call 12; refine (HL.out _ _ _ (by first | exact HA.out | exact HB.out | exact HC.out | exact HS.out | exact HT.out) (by first | exact HA.out | exact HB.out | exact HC.out | exact HS.out | exact HT.out)).mono ?_; rintro r u ⟨hr, z⟩; obtain rfl : w = u := z.symm; clear z; (first | rw [F0.out] at hr | rw [F1.out] at hr | rw [F2.out] at hr | rw [F3.out] at hr | rw [F4.out] at hr | rw [F5.out] at hr | rw [F6.out] at hr | rw [F7.out] at hr | rw [F8.out] at hr); subst hr)
      | (go_at_call 10; refine (HR.out _ _ (by first | exact HA.out | exact HB.out | exact HC.out | exact HS.out | exact HT.out)).mono ?_; rintro r u ⟨hr, z⟩; obtain rfl : w = u := z.symm; clear z; (first | rw [F0.out] at hr | rw [F1.out] at hr | rw [F2.out] at hr | rw [F3.out] at hr | rw [F4.out] at hr | rw [F5.out] at hr | rw [F6.out] at hr | rw [F7.out] at hr | rw [F8.out] at hr); subst hr)
      | (go_at_call 26; refine (HIn.out _ _ (by first | exact HA.out | exact HB.out | exact HC.out | exact HS.out | exact HT.out)).mono ?_; rintro r u ⟨hr, z⟩; obtain rfl : w = u := z.symm; clear z; (first | rw [F0.out] at hr | rw [F1.out] at hr | rw [F2.out] at hr | rw [F3.out] at hr | rw [F4.out] at hr | rw [F5.out] at hr | rw [F6.out] at hr | rw [F7.out] at hr | rw [F8.out] at hr); subst hr)
      | (go_at_call 14; refine (HAw.out _ (by first | exact Below.refl _ _ | go_grown)).mono ?_; rintro r u ⟨rfl, hb⟩; have HB2 : Hid (Below w.heap.size w u) := hb; clear hb))
    go_ret
    exact ⟨rfl, HB2.out⟩
theorem grows_walk (a b c : Int) (w : World) (ha : 0 ≤ a ∧ a < 18446744073709551616) (hb : 0 ≤ b ∧ b < 18446744073709551616) (hc : 0 ≤ c ∧ c < 18446744073709551616) : Calls Try.prog 8 #[.int .u64 a, .int .u64 b, .int .u64 c] w fun e w' => e = .returned (.bool true) ∧ Below w.heap.size w w' := by
  obtain ⟨n, rfl⟩ : ∃ n : Nat, a = (n : Int) := ⟨a.toNat, by omega⟩
  obtain ⟨m, rfl⟩ : ∃ m : Nat, b = (m : Int) := ⟨b.toNat, by omega⟩
  obtain ⟨k, rfl⟩ : ∃ k : Nat, c = (k : Int) := ⟨c.toNat, by omega⟩
  exact grows_nat n m k w (by omega) (by omega) (by omega)
end Go.Proofs.Ytfkkciepbmijaaa
