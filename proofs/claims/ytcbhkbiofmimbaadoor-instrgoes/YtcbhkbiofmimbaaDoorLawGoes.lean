/-
  The walk of InstrGoes.
-/
import Derived.Test.YtcbhkbiofmimbaaDoorEAwake
namespace Go.Proofs.YtcbhkbiofmimbaaDoor
open Go.ChangeShapes Go.WideShapes Go.ChangeAt Go.RowKit

set_option maxRecDepth 20000 in
set_option maxHeartbeats 8000000 in
theorem goes_walk (f t : Int) (w : World) (hd : Cd w) :
    Calls Tryd.prog 7 #[.int .i64 f, .int .i64 t] w fun e w' => e = .returned (.bool true) ∧ Below w.heap.size w w' := by
  have HA : Hid (∀ w, Cd w → Calls Tryd.prog 11 #[] w fun e w' => e = .returned (.bool true) ∧ Below w.heap.size w w') := (show ∀ w, _ from fun w h => awake_any w h)
  have HR : Hid (Calls Tryd.prog 9 #[enV (enF f t)] w fun e w' => e = .returned (.int .i64 (if tabB f = false then 26 else if goB f t = false then 23 else 0)) ∧ Below w.heap.size w w') := (show Calls _ _ _ _ _ from by
    have := rightX_any (enF f t) w (enF_w f t w) hd
    rwa [right_F] at this)
  have HE : Hid (∀ w, Cd w → Calls Tryd.prog 12 #[enV (enF f 0)] w fun e w' => e = .returned (.tuple #[.string ⟨#[]⟩, .int .i64 (if tabB f = false then 26 else 0)]) ∧ Below w.heap.size w w') := (show ∀ w, _ from fun w hd => by
    have := encodeX_any (enF f 0) w (enF_w f 0 w) (enF_u f 0) hd
    have e1 : encodeX (enF f 0).sp = ⟨#[]⟩ := by
      unfold encodeX
      split
      · exact encX_F f
      · rfl
    have e2 : rightX (enF f 0).sp = if tabB f = false then 26 else 0 := by
      rw [right_F, go_F]
      simp
    rwa [e1, e2] at this)
  have HD : Hid (Cd w) := hd
  clear hd
  cases ht : tabB f with
  | false =>
    simp only [ht, if_true] at HR HE
    have hf : (f < 0) ∨ ¬ (f < 0) ∧ (7 < f) := by unfold tabB at ht; simp at ht; omega
    clear ht
    rcases hf with hf | ⟨hf, hf2⟩
    all_goals
      go_enter Tryd.func7, Tryd.ntmps7
      go_wp2_with fail
      refine HR.out.mono ?_
      rintro r w1 ⟨rfl, g1⟩
      go_wp2_with fail
      refine (HE.out _ (HD.out.below g1)).mono ?_
      rintro r w2 ⟨rfl, g2⟩
      have b2 := btr g1 g2 (Nat.le_refl _)
      clear g1 g2
      go_wp2_with fail
      refine (HA.out _ (HD.out.below b2)).mono ?_
      rintro r w3 ⟨rfl, g3⟩
      go_wp2_with fail
      go_ret
      exact ⟨rfl, btr b2 g3 (Nat.le_refl _)⟩
  | true =>
    simp only [ht, Bool.true_eq_false, if_false] at HR HE
    have hf1 : ¬ (f < 0) := by unfold tabB at ht; simp at ht; omega
    have hf2 : ¬ (7 < f) := by unfold tabB at ht; simp at ht; omega
    clear ht
    have hg : (goB f t = true ∧ ((t == 0) = true ∨ (t == 0) = false ∧ f < t ∧ t ≤ 7)) ∨ (goB f t = false ∧ (t == 0) = false ∧ (¬ (f < t) ∨ f < t ∧ ¬ (t ≤ 7))) := by
      unfold goB tabB
      simp
      omega
    rcases hg with ⟨hg, h0 | ⟨h0, h1, h2⟩⟩ | ⟨hg, h0, h1 | ⟨h1, h2⟩⟩
    all_goals
      simp only [hg, Bool.true_eq_false, if_false, if_true] at HR
      clear hg
      go_enter Tryd.func7, Tryd.ntmps7
      go_wp2_with fail
      refine HR.out.mono ?_
      rintro r w1 ⟨rfl, g1⟩
      go_wp2_with fail
      refine (HE.out _ (HD.out.below g1)).mono ?_
      rintro r w2 ⟨rfl, g2⟩
      have b2 := btr g1 g2 (Nat.le_refl _)
      clear g1 g2
      go_wp2_with fail
      refine (HA.out _ (HD.out.below b2)).mono ?_
      rintro r w3 ⟨rfl, g3⟩
      go_wp2_with fail
      go_ret
      first | exact ⟨rfl, btr b2 g3 (Nat.le_refl _)⟩ | exact ⟨ret_bool (by simpa using h2), btr b2 g3 (Nat.le_refl _)⟩
end Go.Proofs.YtcbhkbiofmimbaaDoor
