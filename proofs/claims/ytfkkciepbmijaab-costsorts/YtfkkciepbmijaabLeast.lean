/-
  The least one's place: cost.Least, and the document's.
-/
import Derived.Test.YtfkkciepbmijaabSums
namespace Go.Proofs.Ytfkkciepbmijaab
open Go.ChangeShapes Go.WideShapes Go.ChangeAt Go.RowKit
set_option linter.unusedVariables false

/-- The place of the least of the first k. -/
def lstN (l : List Nat) : Nat → Int
  | 0 => -1
  | k + 1 => if decide (lstN l k < 0) || lessB (l.getD k 0) (l.getD (lstN l k).toNat 0) then k else lstN l k
abbrev leastN (l : List Nat) : Int := lstN l l.length
theorem lstN_range (l : List Nat) (k : Nat) : -1 ≤ lstN l k ∧ lstN l k < k := by
  induction k with
  | zero => exact ⟨Int.le_refl _, by show (-1 : Int) < 0; decide⟩
  | succ k ih =>
    unfold lstN
    split <;> omega
theorem getD_of (l : List Nat) (i : Nat) (h : i < l.length) : l.getD i 0 = l[i] := by simp [List.getD_eq_getElem?_getD, h]
set_option maxRecDepth 20000 in
set_option maxHeartbeats 4000000 in
theorem least_any (a : Option Addr) (l : List Nat) (cap : Nat) (w : World) (hs : Fs w a l) (hw : W64 l) (hl : l.length ≤ 4611686018427387904) :
    Calls Try.prog 8 #[.slice a l.length cap] w fun e w' => e = .returned (.int .i64 (leastN l)) ∧ w' = w := by
  have HS : Hid (Fs w a l) := hs
  have HW : Hid (W64 l) := hw
  have H0 : Hid (lstN l 0 = -1) := (show _ = _ from rfl)
  have HA : Hid (∀ x y w, x < 2 ^ 64 → y < 2 ^ 64 → Calls Try.prog 7 #[.float .f64 x, .float .f64 y] w fun e w' => e = .returned (.bool (lessB x y)) ∧ w' = w) := (show ∀ x y w, _ from fun x y w hx hy => less_any x y hx hy w)
  clear hs hw
  go_enter Try.func8, Try.ntmps8
  go_wp2
  go_loopw [3, 8] (fun v3 v8 wr => ∃ (k : Nat) (m : Int), k ≤ l.length ∧ v8 = .int .i64 k ∧ v3 = .int .i64 m ∧ Hid (lstN l k = m) ∧ wr = w) (fun _ v8 _ => l.length - (intOf v8).toNat)
  case atStart => exact ⟨0, -1, Nat.zero_le _, rfl, rfl, H0, rfl⟩
  case round =>
    obtain ⟨k, m, hk, rfl, rfl, HK, HB⟩ := hrel
    obtain rfl : wr = w := HB
    by_cases hlt : k < l.length
    · obtain ⟨g, o, rfl, hg, hc⟩ := HS.out.at hlt
      have d0 := hc k hlt
      have hx := HW.out.at hlt
      have hr := lstN_range l k
      have hn : lstN l (k + 1) = if decide (lstN l k < 0) || lessB (l.getD k 0) (l.getD (lstN l k).toNat 0) then (k : Int) else lstN l k := rfl
      rw [HK.out] at hr hn
      rw [getD_of l k hlt] at hn
      by_cases hm : m < 0
      · have HN : Hid (lstN l (k + 1) = (k : Int)) := (show _ = _ by rw [hn, decide_eq_true hm]; rfl)
        clear hn hc hx hr HK
        go_wp2
        go_roundw
        case rel => exact ⟨k + 1, k, by omega, by go_num, rfl, HN, by first | rfl | trivial⟩
        case measure => simp [intOf]; omega
      · obtain ⟨j, rfl⟩ : ∃ j : Nat, m = (j : Int) := ⟨m.toNat, by omega⟩
        have hj : j < l.length := by omega
        have e0 := hc j hj
        have hy := HW.out.at hj
        rw [decide_eq_false hm, Int.toNat_natCast, getD_of l j hj, Bool.false_or] at hn
        have zj : (j : Int) < (l.length : Int) := by omega
        have zm : ¬ (j : Int) < 0 := by omega
        generalize l[k] = x at *
        generalize l[j] = y at *
        have HC : Hid (∀ w, Calls Try.prog 7 #[.float .f64 x, .float .f64 y] w fun e w' => e = .returned (.bool (lessB x y)) ∧ w' = w) := (show ∀ w, _ from fun w => HA.out x y w hx hy)
        cases hb : lessB x y
        · rw [hb] at HC hn
          have HN : Hid (lstN l (k + 1) = (j : Int)) := (show _ = _ by rw [hn]; rfl)
          clear hn hc hx hy hr HK hb hm
          go_wp2_with (go_at_call 7; refine (HC.out _).mono ?_; rintro r w' ⟨rfl, rfl⟩)
          go_roundw
          case rel => exact ⟨k + 1, j, by omega, by go_num, rfl, HN, by first | rfl | trivial⟩
          case measure => simp [intOf]; omega
        · rw [hb] at HC hn
          have HN : Hid (lstN l (k + 1) = (k : Int)) := (show _ = _ by rw [hn]; rfl)
          clear hn hc hx hy hr HK hb hm
          go_wp2_with (go_at_call 7; refine (HC.out _).mono ?_; rintro r w' ⟨rfl, rfl⟩)
          go_roundw
          case rel => exact ⟨k + 1, k, by omega, by go_num, rfl, HN, by first | rfl | trivial⟩
          case measure => simp [intOf]; omega
    · have HE : Hid (leastN l = m) := (show _ = _ by
        have := HK.out
        rwa [show k = l.length by omega] at this)
      clear HK
      go_wp2
      go_ret
      exact ⟨by rw [HE.out]; rfl, rfl⟩
end Go.Proofs.Ytfkkciepbmijaab
