/-
  PredCuts, walked.
-/
import Derived.Test.YtmobmpghpdaddaaRefC
import Derived.Test.YtmobmpghpdaddaaLawUse
namespace Go.Proofs.Ytmobmpghpdaddaa
open Go.ChangeShapes Go.WideShapes Go.ChangeAt Go.RowKit
set_option linter.unusedVariables false
set_option linter.unusedSimpArgs false

set_option maxRecDepth 20000 in
set_option maxHeartbeats 4000000 in
theorem cuts_walk (ra : Option Addr) (la : List Tst) (ca : Nat) (rb : Option Addr) (lb : List Tst) (cb : Nat) (w : World) (hta : Ts w ra la) (hla : la.length ≤ 9223372036854775807) (hlc : la.length ≤ ca) (htb : Ts w rb lb) (hlb : lb.length ≤ 9223372036854775807) (hlbc : lb.length ≤ cb) :
    Calls Try.prog 6 #[.slice ra la.length ca, .slice rb lb.length cb] w fun e w' => e = .returned (.bool true) ∧ Below w.heap.size w w' := by
  have HAw : Hid (∀ u, Below w.heap.size w u → Calls Try.prog 13 #[] u fun e w' => e = .returned (.bool true) ∧ Below w.heap.size w w') := (show ∀ u, _ from fun u g => (awake_any u).mono fun e w' ⟨h1, h2⟩ => ⟨h1, btr g h2 (Nat.le_refl _)⟩)
  have HRa : Hid (∀ u, Below w.heap.size w u → Calls Try.prog 21 #[.slice ra la.length ca] u fun e w' => e = .returned (.bool (wholeB la)) ∧ Below u.heap.size u w') := (show ∀ u, _ from fun u g => rwhole_any ra la ca u (hta.below g) hla)
  have HRb : Hid (∀ u, Below w.heap.size w u → Calls Try.prog 21 #[.slice rb lb.length cb] u fun e w' => e = .returned (.bool (wholeB lb)) ∧ Below u.heap.size u w') := (show ∀ u, _ from fun u g => rwhole_any rb lb cb u (htb.below g) hlb)
  have HCu : Hid (Calls Try.prog 31 #[.slice ra la.length ca, .slice rb lb.length cb] w fun e w' => ((wholeB la && wholeB lb) = false ∧ e = .returned (.slice none 0 0) ∧ Below w.heap.size w w') ∨ (wholeB la = true ∧ wholeB lb = true ∧ ∃ v, e = .returned v ∧ CuR w v (cutL (cubF la) (cubF lb)) w')) := cut_any ra la ca rb lb cb w hta htb hla hlb
  have HDc : Hid (wholeB la = true → wholeB lb = true → ∀ u, Below w.heap.size w u → Calls Try.prog 33 #[.slice ra la.length ca, .slice rb lb.length cb] u fun e w' => ∃ x d, e = .returned (.slice x (cutL (cubF la) (cubF lb)).length d) ∧ CuS w' x (cutL (cubF la) (cubF lb)) ∧ Below u.heap.size u w') := (show _ → _ → ∀ u, _ from fun ha hb u g => rcut_any ra la ca rb lb cb u (hta.below g) (htb.below g) ha hb hla hlb hlc)
  clear hta htb hla hlc hlb hlbc
  rcases (show (wholeB la && wholeB lb) = false ∨ (wholeB la = true ∧ wholeB lb = true) by cases wholeB la <;> cases wholeB lb <;> simp) with hno | ⟨hwa, hwb⟩
  · have HCn : Hid (Calls Try.prog 31 #[.slice ra la.length ca, .slice rb lb.length cb] w fun e w' => e = .returned (.slice none 0 0) ∧ Below w.heap.size w w') := (show Calls _ _ _ _ _ from HCu.out.mono fun e w' hq => by
      rcases hq with ⟨_, h2, h3⟩ | ⟨h1, h2, _⟩
      · exact ⟨h2, h3⟩
      · rw [h1, h2] at hno; cases hno)
    clear HCu HDc
    generalize wholeB la = wa at *
    generalize wholeB lb = wb at *
    cases wa <;> cases wb
    all_goals first | (exfalso; revert hno; simp; done) | skip
    all_goals
      clear hno
      go_enter Try.func6, Try.ntmps6
      go_wp2_with (first
        | (go_at_call 31; refine HCn.out.mono ?_; rintro e w1 ⟨rfl, h1⟩; have HBz : Hid (Below w.heap.size w w1) := h1; clear h1)
        | (go_at_call_of 21 (Value.slice ra la.length ca); refine (HRa.out _ HBz.out).mono ?_; rintro e w2 ⟨rfl, h1⟩; have HBy : Hid (Below w.heap.size w w2) := btr HBz.out h1 (Nat.le_refl _); clear h1)
        | (go_at_call 21; refine (HRb.out _ HBy.out).mono ?_; rintro e w3 ⟨rfl, h1⟩; have HBy : Hid (Below w.heap.size w w3) := btr HBy.out h1 (Nat.le_refl _); clear h1)
        | (go_at_call 13; refine (HAw.out _ HBy.out).mono ?_; rintro e w1 ⟨rfl, h1⟩; have HBy : Hid (Below w.heap.size w w1) := h1; clear h1))
      go_ret
      exact ⟨rfl, HBy.out⟩
  · have HCy : Hid (Calls Try.prog 31 #[.slice ra la.length ca, .slice rb lb.length cb] w fun e w' => ∃ x d, e = .returned (.slice x (cutL (cubF la) (cubF lb)).length d) ∧ CuS w' x (cutL (cubF la) (cubF lb)) ∧ Below w.heap.size w w') := (show Calls _ _ _ _ _ from HCu.out.mono fun e w' hq => by
      rcases hq with ⟨h1, _⟩ | ⟨_, _, v, h2, h3⟩
      · rw [hwa, hwb] at h1; cases h1
      · obtain ⟨a, c, e1, h4⟩ := h3.cus
        exact ⟨a, c, by rw [h2, e1], h4, h3.bel⟩)
    have HDy : Hid (∀ u x, Below w.heap.size w u → CuS u x (cutL (cubF la) (cubF lb)) → Calls Try.prog 33 #[.slice ra la.length ca, .slice rb lb.length cb] u fun e w' => ∃ y d, e = .returned (.slice y (cutL (cubF la) (cubF lb)).length d) ∧ CuS w' x (cutL (cubF la) (cubF lb)) ∧ CuS w' y (cutL (cubF la) (cubF lb)) ∧ Below w.heap.size w w') := (show ∀ u x, _ from fun u x g hx => (HDc.out hwa hwb u g).mono fun e w' ⟨y, d, h1, h2, h3⟩ => ⟨y, d, h1, hx.below h3, h2, btr g h3 (Nat.le_refl _)⟩)
    have hlen := cutL_len (cubF la) (cubF lb)
    obtain ⟨CL, hCL⟩ : ∃ CL, cutL (cubF la) (cubF lb) = CL := ⟨_, rfl⟩
    rw [hCL] at HCy HDy hlen
    have HSc : Hid (∀ u x c y d, Below w.heap.size w u → CuS u x CL → CuS u y CL → Calls Try.prog 32 #[.slice x CL.length c, .slice y CL.length d] u fun e w' => e = .returned (.bool true) ∧ Below w.heap.size w w') := (show ∀ u x c y d, _ from fun u x c y d g h1 h2 => (samecs_any x CL c y d u h1 h2 (by omega)).mono fun e w' ⟨h1, h2⟩ => ⟨h1, btr g h2 (Nat.le_refl _)⟩)
    rw [hwa] at HRa
    rw [hwb] at HRb
    clear HCu HDc hCL hwa hwb hlen
    go_enter Try.func6, Try.ntmps6
    go_wp2_with (first
      | (go_at_call 31; refine HCy.out.mono ?_; rintro e w1 ⟨x, d, rfl, h1, h2⟩; have HBz : Hid (Below w.heap.size w w1 ∧ CuS w1 x CL) := ⟨h2, h1⟩; clear h1 h2)
      | (go_at_call_of 21 (Value.slice ra la.length ca); refine (HRa.out _ HBz.out.1).mono ?_; rintro e w2 ⟨rfl, h1⟩; have HBy : Hid (Below w.heap.size w w2 ∧ CuS w2 x CL) := ⟨btr HBz.out.1 h1 (Nat.le_refl _), HBz.out.2.below h1⟩; clear h1)
      | (go_at_call 21; refine (HRb.out _ HBy.out.1).mono ?_; rintro e w3 ⟨rfl, h1⟩; have HBx : Hid (Below w.heap.size w w3 ∧ CuS w3 x CL) := ⟨btr HBy.out.1 h1 (Nat.le_refl _), HBy.out.2.below h1⟩; clear h1)
      | (go_at_call 33; refine (HDy.out _ x HBx.out.1 HBx.out.2).mono ?_; rintro e w4 ⟨y, d2, rfl, h1, h2, h3⟩; have HBw : Hid (Below w.heap.size w w4 ∧ CuS w4 x CL ∧ CuS w4 y CL) := ⟨h3, h1, h2⟩; clear h1 h2 h3)
      | (go_at_call 32; refine (HSc.out _ x d y d2 HBw.out.1 HBw.out.2.1 HBw.out.2.2).mono ?_; rintro e w5 ⟨rfl, h1⟩; have HBv : Hid (Below w.heap.size w w5) := h1; clear h1)
      | (go_at_call 13; refine (HAw.out _ HBv.out).mono ?_; rintro e w6 ⟨rfl, h1⟩; have HBu : Hid (Below w.heap.size w w6) := h1; clear h1))
    go_ret
    exact ⟨rfl, HBu.out⟩
end Go.Proofs.Ytmobmpghpdaddaa
