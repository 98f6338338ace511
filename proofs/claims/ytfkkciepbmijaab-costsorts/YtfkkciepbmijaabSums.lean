/-
  What a row comes to, and the least one's place: cost.Sum, cost.Least, and the document's.
-/
import Derived.Test.YtfkkciepbmijaabSl
namespace Go.Proofs.Ytfkkciepbmijaab
open Go.ChangeShapes Go.WideShapes Go.ChangeAt Go.RowKit
set_option linter.unusedVariables false

def sumL (l : List Nat) : Nat := l.foldl addB 0
theorem sumL_snoc (l : List Nat) (x : Nat) : sumL (l ++ [x]) = addB (sumL l) x := by unfold sumL; rw [List.foldl_append]; rfl
theorem addB_lt (a b : Nat) : addB a b < 2 ^ 64 := by have := addB_le a b; have hI : infR = 9218868437227405312 := rfl; omega
theorem sumL_lt (l : List Nat) : sumL l < 2 ^ 64 := by
  rcases List.eq_nil_or_concat l with h | ⟨m, x, h⟩
  · subst h; decide
  · rw [h, List.concat_eq_append, sumL_snoc]; exact addB_lt _ _
set_option maxRecDepth 20000 in
set_option maxHeartbeats 2000000 in
theorem sum_any (a : Option Addr) (l : List Nat) (cap : Nat) (w : World) (hs : Fs w a l) (hw : W64 l) (hl : l.length ≤ 4611686018427387904) :
    Calls Try.prog 11 #[.slice a l.length cap] w fun e w' => e = .returned (.float .f64 (sumL l)) ∧ w' = w := by
  have HS : Hid (Fs w a l) := hs
  have HW : Hid (W64 l) := hw
  have H0 : Hid (sumL (l.take 0) = 0) := (show _ = _ from rfl)
  have HA : Hid (∀ x y w, x < 2 ^ 64 → y < 2 ^ 64 → Calls Try.prog 13 #[.float .f64 x, .float .f64 y] w fun e w' => e = .returned (.float .f64 (addB x y)) ∧ w' = w) := (show ∀ x y w, _ from fun x y w hx hy => add_any x y hx hy w)
  clear hs hw
  go_enter Try.func11, Try.ntmps11
  go_wp2
  go_loopw [3, 8] (fun v3 v8 wr => ∃ (k s : Nat), k ≤ l.length ∧ v8 = .int .i64 k ∧ v3 = .float .f64 s ∧ Hid (sumL (l.take k) = s) ∧ wr = w) (fun _ v8 _ => l.length - (intOf v8).toNat)
  case atStart => exact ⟨0, 0, Nat.zero_le _, rfl, rfl, H0, rfl⟩
  case round =>
    obtain ⟨k, s, hk, rfl, rfl, HK, HB⟩ := hrel
    obtain rfl : wr = w := HB
    by_cases hlt : k < l.length
    · obtain ⟨g, o, rfl, hg, hc⟩ := HS.out.at hlt
      have d0 := hc k hlt
      have HN : Hid (sumL (l.take (k + 1)) = addB s l[k]) := (show _ = _ by rw [List.take_succ_eq_append_getElem hlt, sumL_snoc, HK.out])
      have hx := HW.out.at hlt
      have hs := sumL_lt (l.take k)
      rw [HK.out] at hs
      generalize l[k] = x at *
      have HC : Hid (∀ w, Calls Try.prog 13 #[.float .f64 s, .float .f64 x] w fun e w' => e = .returned (.float .f64 (addB s x)) ∧ w' = w) := (show ∀ w, _ from fun w => HA.out s x w hs hx)
      clear hc hx hs HK
      generalize addB s x = t at *
      go_wp2_with (go_at_call 13; refine (HC.out _).mono ?_; rintro r w' ⟨rfl, rfl⟩)
      go_roundw
      case rel => exact ⟨k + 1, t, by omega, by go_num, rfl, HN, by first | rfl | trivial⟩
      case measure => simp [intOf]; omega
    · have HE : Hid (sumL l = s) := (show _ = _ by
        have := HK.out
        rwa [List.take_of_length_le (by omega)] at this)
      clear HK
      go_wp2
      go_ret
      exact ⟨by rw [HE.out]; rfl, rfl⟩
end Go.Proofs.Ytfkkciepbmijaab
