/-
  The document's least one, and whether two rows of places are the same.
-/
import Derived.Test.YtfkkciepbmijaabLeast
namespace Go.Proofs.Ytfkkciepbmijaab
open Go.ChangeShapes Go.WideShapes Go.ChangeAt Go.RowKit
set_option linter.unusedVariables false

theorem take_eq2 {xs ys : List Int} (hl : xs.length = ys.length) {k : Nat} (hk : k < xs.length) (h : xs.take k = ys.take k) (g : xs[k] = ys[k]'(by omega)) : xs.take (k + 1) = ys.take (k + 1) := by
  rw [List.take_succ_eq_append_getElem hk, List.take_succ_eq_append_getElem (show k < ys.length by omega), h, g]
def sameB (xs ys : List Int) : Bool := decide (xs = ys)
set_option maxRecDepth 20000 in
set_option maxHeartbeats 4000000 in
theorem ints_any (a b : Option Addr) (xs ys : List Int) (ca cb : Nat) (w : World) (ha : Is w a xs) (hb : Is w b ys) (hla : xs.length ≤ 4611686018427387904) (hlb : ys.length ≤ 4611686018427387904) :
    Calls Try.prog 19 #[.slice a xs.length ca, .slice b ys.length cb] w fun e w' => e = .returned (.bool (sameB xs ys)) ∧ Below w.heap.size w w' := by
  by_cases hl : xs.length = ys.length
  · obtain ⟨R, hR⟩ : ∃ R, sameB xs ys = R := ⟨_, rfl⟩
    have HR : Hid (sameB xs ys = R) := hR
    rw [hR]
    clear hR
    have HX : Hid (Is w a xs) := ha
    have HY : Hid (Is w b ys) := hb
    have HL : Hid (xs.length = ys.length) := hl
    have H0 : Hid (xs.take 0 = ys.take 0) := (show _ = _ from rfl)
    have HB0 : Hid (Below w.heap.size w w) := Below.refl _ _
    have hlb' : ((xs.length : Int) != (xs.length : Int)) = false := by simp
    rw [← hl]
    clear ha hb hl hlb
    go_enter Try.func19, Try.ntmps19
    go_wp2
    go_loopw [5] (fun v5 wr => ∃ (k : Nat), k ≤ xs.length ∧ v5 = .int .i64 k ∧ Hid (xs.take k = ys.take k) ∧ Hid (Below w.heap.size w wr)) (fun v5 _ => xs.length - (intOf v5).toNat)
    case atStart => exact ⟨0, Nat.zero_le _, rfl, H0, HB0⟩
    case round =>
      obtain ⟨k, hk, rfl, HK, HB⟩ := hrel
      by_cases hlt : k < xs.length
      · have hlz : (k : Int) < (xs.length : Int) := by omega
        have hlt' : k < ys.length := by have := HL.out; omega
        obtain ⟨g, o, rfl, hg, hc⟩ := (HX.out.below HB.out).at hlt
        obtain ⟨g2, o2, rfl, hg2, hc2⟩ := (HY.out.below HB.out).at hlt'
        have d0 := cell_gr (hc k hlt) hg
        have e0 := cell_gr (hc2 k hlt') hg2
        by_cases he : xs[k] = ys[k]
        · have HN : Hid (xs.take (k + 1) = ys.take (k + 1)) := (show _ = _ from take_eq2 HL.out hlt HK.out he)
          have hbb : (xs[k] != ys[k]) = false := by simp [he]
          generalize xs[k] = x at *
          generalize ys[k] = y at *
          clear hc hc2 he HK
          go_wp2_with fail
          refine wp_region_grow (by kernel_rfl) (by kernel_rfl) ?_
          repeat (go_big_quiet_step (fail))
          refine wpQuiet_nil ?_
          rintro w1 hw'
          have HB1 : Hid (Below w.heap.size w w1) := (show Below _ _ _ from btr HB.out (gr_elim hw') (Nat.le_refl _))
          clear hw' d0 e0
          go_wp2_with fail
          go_roundw
          case rel => exact ⟨k + 1, by omega, by go_num, HN, HB1⟩
          case measure => simp [intOf]; omega
        · have HN : Hid (R = false) := (show _ = _ by rw [← HR.out]; exact decide_eq_false (fun h => he (by subst h; rfl)))
          have hbb : (xs[k] != ys[k]) = true := by simp [he]
          generalize xs[k] = x at *
          generalize ys[k] = y at *
          clear hc hc2 he HK
          go_wp2_with fail
          refine wp_region_grow (by kernel_rfl) (by kernel_rfl) ?_
          repeat (go_big_quiet_step (fail))
          refine wpQuiet_nil ?_
          rintro w1 hw'
          have HB1 : Hid (Below w.heap.size w w1) := (show Below _ _ _ from btr HB.out (gr_elim hw') (Nat.le_refl _))
          clear hw' d0 e0
          go_wp2_with fail
          go_ret
          exact ⟨by rw [HN.out]; rfl, HB1.out⟩
      · have HN : Hid (R = true) := (show _ = _ by
          rw [← HR.out]
          exact decide_eq_true (by
            have := HK.out
            rwa [List.take_of_length_le (by omega), List.take_of_length_le (by have := HL.out; omega)] at this))
        clear HK
        go_wp2
        go_ret
        exact ⟨by rw [HN.out]; rfl, HB.out⟩
  · have hne : sameB xs ys = false := decide_eq_false (fun h => hl (by rw [h]))
    have hb1 : ((xs.length : Int) != (ys.length : Int)) = true := by simp; omega
    rw [hne]
    clear ha hb hne
    generalize xs.length = n at *
    generalize ys.length = m at *
    go_enter Try.func19, Try.ntmps19
    go_wp2
    go_ret
    exact ⟨rfl, Below.refl _ _⟩
end Go.Proofs.Ytfkkciepbmijaab
