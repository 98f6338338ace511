/-
  The law MatchPairs answers true, of any tests.
-/
import Derived.Test.YtjmnnjhaiecglaaDoorRSame
import Derived.Test.YtjmnnjhaiecglaaDoorEncode
namespace Go.Proofs.YtjmnnjhaiecglaaDoor
open Go.ChangeShapes Go.WideShapes Go.ChangeAt Go.RowKit

theorem lawPairs_long (a1 : Option Addr) (l : List T) (cap1 : Nat) (a2 : Option Addr) (b : List T) (cap2 : Nat) (w : World) (hd : Cd w) (hg : 40 < l.length ∨ 40 < b.length) :
    Calls Tryd.prog 5 #[.slice a1 l.length cap1, .slice a2 b.length cap2] w fun e w' => e = .returned (.bool true) ∧ Below w.heap.size w w' := by
  have HA : Hid (∀ w, Cd w → Calls Tryd.prog 11 #[] w fun e w' => e = .returned (.bool true) ∧ Below w.heap.size w w') := fun w hd => awake_any w hd
  by_cases h1 : (l.length : Int) > 40
  · go_enter Tryd.func5, Tryd.ntmps5
    go_wp2_with fail
    refine (HA.out _ hd).mono ?_
    rintro r w3 ⟨rfl, g3⟩
    go_wp2_with fail
    go_ret
    exact ⟨rfl, g3⟩
  · have h2 : (b.length : Int) > 40 := by omega
    go_enter Tryd.func5, Tryd.ntmps5
    go_wp2_with fail
    refine (HA.out _ hd).mono ?_
    rintro r w3 ⟨rfl, g3⟩
    go_wp2_with fail
    go_ret
    exact ⟨rfl, g3⟩
set_option maxHeartbeats 8000000 in
theorem lawPairs_walk (a1 : Option Addr) (l : List T) (cap1 : Nat) (a2 : Option Addr) (b : List T) (cap2 : Nat) (w : World) (h : Ts w a1 l) (_ : l.length ≤ cap1) (_ : TWs l) (h2 : Ts w a2 b) (_ : b.length ≤ cap2) (_ : TWs b) (hd : Cd w) :
    Calls Tryd.prog 5 #[.slice a1 l.length cap1, .slice a2 b.length cap2] w fun e w' => e = .returned (.bool true) ∧ Below w.heap.size w w' := by
  by_cases hg : 40 < l.length ∨ 40 < b.length
  · exact lawPairs_long a1 l cap1 a2 b cap2 w hd hg
  · have hl1 : l.length ≤ 40 := by omega
    have hl2 : b.length ≤ 40 := by omega
    have HA : Hid (∀ w, Cd w → Calls Tryd.prog 11 #[] w fun e w' => e = .returned (.bool true) ∧ Below w.heap.size w w') := fun w hd => awake_any w hd
    have H1 : Hid (∀ w, Ts w a1 l → Ts w a2 b → Calls Tryd.prog 15 #[.slice a1 l.length cap1, .slice a2 b.length cap2] w fun e w' => e = .returned (.bool (sameB l b)) ∧ Below w.heap.size w w') := fun w h h2 => same_any a1 l cap1 a2 b cap2 w h (by omega) h2 (by omega)
    have H2 : Hid (∀ w, Ts w a1 l → Ts w a2 b → Calls Tryd.prog 16 #[.slice a1 l.length cap1, .slice a2 b.length cap2] w fun e w' => e = .returned (.bool (sameB l b)) ∧ Below w.heap.size w w') := fun w h h2 => rsame_any a1 l cap1 a2 b cap2 w h (by omega) h2 (by omega)
    have H3 : Hid (∀ w, Ts w a1 l → Ts w a2 b → Calls Tryd.prog 17 #[.slice a1 l.length cap1, .slice a2 b.length cap2] w fun e w' => e = .returned (.bool (coversB l b)) ∧ Below w.heap.size w w') := fun w h h2 => covers_any a1 l cap1 a2 b cap2 w h (by omega) h2 (by omega)
    have H4 : Hid (∀ w, Ts w a1 l → Ts w a2 b → Calls Tryd.prog 18 #[.slice a1 l.length cap1, .slice a2 b.length cap2] w fun e w' => e = .returned (.bool (coversB l b)) ∧ Below w.heap.size w w') := fun w h h2 => rcovers_any a1 l cap1 a2 b cap2 w h (by omega) h2 (by omega)
    have H5 : Hid (∀ w, Ts w a1 l → Ts w a2 b → Calls Tryd.prog 19 #[.slice a1 l.length cap1, .slice a2 b.length cap2] w fun e w' => e = .returned (.bool (meetsB l b)) ∧ Below w.heap.size w w') := fun w h h2 => meets_any a1 l cap1 a2 b cap2 w h (by omega) h2 (by omega)
    have H6 : Hid (∀ w, Ts w a1 l → Ts w a2 b → Calls Tryd.prog 20 #[.slice a1 l.length cap1, .slice a2 b.length cap2] w fun e w' => e = .returned (.bool (meetsB l b)) ∧ Below w.heap.size w w') := fun w h h2 => rmeets_any a1 l cap1 a2 b cap2 w h (by omega) h2 (by omega)
    have n1 : ¬ (l.length : Int) > 40 := by omega
    have n2 : ¬ (b.length : Int) > 40 := by omega
    generalize sameB l b = v1 at *
    generalize coversB l b = v2 at *
    generalize meetsB l b = v3 at *
    cases v1 <;> cases v2 <;> cases v3
    all_goals
      go_enter Tryd.func5, Tryd.ntmps5
      go_wp2_with fail
      refine (H1.out _ h h2).mono ?_
      rintro r w1 ⟨rfl, g1⟩
      go_wp2_with fail
      refine (H2.out _ (h.below g1) (h2.below g1)).mono ?_
      rintro r w2 ⟨rfl, g2'⟩
      have g2 := btr g1 g2' (Nat.le_refl _)
      clear g2'
      go_wp2_with fail
      refine (H3.out _ (h.below g2) (h2.below g2)).mono ?_
      rintro r w3 ⟨rfl, g3'⟩
      have g3 := btr g2 g3' (Nat.le_refl _)
      clear g3'
      go_wp2_with fail
      refine (H4.out _ (h.below g3) (h2.below g3)).mono ?_
      rintro r w4 ⟨rfl, g4'⟩
      have g4 := btr g3 g4' (Nat.le_refl _)
      clear g4'
      go_wp2_with fail
      refine (H5.out _ (h.below g4) (h2.below g4)).mono ?_
      rintro r w5 ⟨rfl, g5'⟩
      have g5 := btr g4 g5' (Nat.le_refl _)
      clear g5'
      go_wp2_with fail
      refine (H6.out _ (h.below g5) (h2.below g5)).mono ?_
      rintro r w6 ⟨rfl, g6'⟩
      have g6 := btr g5 g6' (Nat.le_refl _)
      clear g6'
      go_wp2_with fail
      refine (HA.out _ (hd.below g6)).mono ?_
      rintro r w7 ⟨rfl, g7'⟩
      have g7 := btr g6 g7' (Nat.le_refl _)
      go_wp2_with fail
      go_ret
      exact ⟨rfl, g7⟩
end Go.Proofs.YtjmnnjhaiecglaaDoor
