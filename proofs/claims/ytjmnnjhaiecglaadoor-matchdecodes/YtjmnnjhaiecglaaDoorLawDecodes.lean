/-
  The law MatchDecodes answers true, of any bytes.
-/
import Derived.Test.YtjmnnjhaiecglaaDoorRefD
import Derived.Test.YtjmnnjhaiecglaaDoorRSame
namespace Go.Proofs.YtjmnnjhaiecglaaDoor
open Go.ChangeShapes Go.WideShapes Go.ChangeAt Go.RowKit

theorem lawDecodes_long (x : ByteArray) (w : World) (hd : Cd w) (hg : 1000 < x.size) :
    Calls Tryd.prog 7 #[.string x] w fun e w' => e = .returned (.bool true) ∧ Below w.heap.size w w' := by
  have HA : Hid (∀ w, Cd w → Calls Tryd.prog 11 #[] w fun e w' => e = .returned (.bool true) ∧ Below w.heap.size w w') := fun w hd => awake_any w hd
  have h1 : (x.size : Int) > 1000 := by omega
  go_enter Tryd.func7, Tryd.ntmps7
  go_wp2_with fail
  refine (HA.out _ hd).mono ?_
  rintro r w3 ⟨rfl, g3⟩
  go_wp2_with fail
  go_ret
  exact ⟨rfl, g3⟩
set_option maxHeartbeats 8000000 in
theorem lawDecodes_yes (x : ByteArray) (w : World) (hd : Cd w) (hx : x.size ≤ 1000) (hok : wholeOk x) :
    Calls Tryd.prog 7 #[.string x] w fun e w' => e = .returned (.bool true) ∧ Below w.heap.size w w' := by
  have HA : Hid (∀ w, Cd w → Calls Tryd.prog 11 #[] w fun e w' => e = .returned (.bool true) ∧ Below w.heap.size w w') := fun w hd => awake_any w hd
  have n1 : ¬ (x.size : Int) > 1000 := by omega
  have H1 : Hid (∀ w, Cd w → Calls Tryd.prog 23 #[.string x] w fun e w' => ∃ a cap, e = .returned (.tuple #[.slice a (testsOf x).length cap, .int .i64 (padV (saidV x)), .int .i64 0]) ∧ (testsOf x).length ≤ cap ∧ Ts w' a (testsOf x) ∧ Below w.heap.size w w') := fun w hd => dec_yes x w (by omega) hd hok
  have H2 : Hid (∀ w, Calls Tryd.prog 24 #[.string x] w fun e w' => ∃ a cap, e = .returned (.tuple #[.slice a (testsOf x).length cap, .int .i64 (padV (saidV x)), .int .i64 0]) ∧ Ts w' a (testsOf x) ∧ Below w.heap.size w w') := fun w => rdec_yes x w hx hok
  have hl := right_short _ hok.2.2.2.1
  have H3 : Hid (∀ a cap a2 cap2 w, Ts w a (testsOf x) → Ts w a2 (testsOf x) → Calls Tryd.prog 16 #[.slice a (testsOf x).length cap, .slice a2 (testsOf x).length cap2] w fun e w' => e = .returned (.bool true) ∧ Below w.heap.size w w') := fun a cap a2 cap2 w h h2 => by
    have := rsame_any a (testsOf x) cap a2 (testsOf x) cap2 w h (by omega) h2 (by omega)
    rwa [show sameB (testsOf x) (testsOf x) = true from decide_eq_true rfl] at this
  clear hok hl
  generalize testsOf x = L at *
  generalize padV (saidV x) = p at *
  go_enter Tryd.func7, Tryd.ntmps7
  go_wp2_with fail
  refine (H1.out _ hd).mono ?_
  rintro r w1 ⟨a1, cap1, rfl, _, t1, g1⟩
  go_wp2_with fail
  refine (H2.out _).mono ?_
  rintro r w2 ⟨a2, cap2, rfl, t2, g2'⟩
  have t1' := t1.below g2'
  have g2 := btr g1 g2' (Nat.le_refl _)
  clear g2' t1
  go_wp2_with fail
  refine (H3.out a1 cap1 a2 cap2 _ t1' t2).mono ?_
  rintro r w3 ⟨rfl, g3'⟩
  have g3 := btr g2 g3' (Nat.le_refl _)
  clear g3'
  go_wp2_with fail
  refine (HA.out _ (hd.below g3)).mono ?_
  rintro r w4 ⟨rfl, g4⟩
  go_wp2_with fail
  go_ret
  exact ⟨rfl, btr g3 g4 (Nat.le_refl _)⟩
set_option maxHeartbeats 8000000 in
theorem lawDecodes_no (x : ByteArray) (w : World) (hd : Cd w) (hx : x.size ≤ 1000) (hok : ¬ wholeOk x) :
    Calls Tryd.prog 7 #[.string x] w fun e w' => e = .returned (.bool true) ∧ Below w.heap.size w w' := by
  have HA : Hid (∀ w, Cd w → Calls Tryd.prog 11 #[] w fun e w' => e = .returned (.bool true) ∧ Below w.heap.size w w') := fun w hd => awake_any w hd
  have n1 : ¬ (x.size : Int) > 1000 := by omega
  have H1 : Hid (∀ w, Cd w → Calls Tryd.prog 23 #[.string x] w fun e w' => e = .returned (.tuple #[.slice none 0 0, .int .i64 0, .int .i64 (decE x)]) ∧ Below w.heap.size w w') := fun w hd => dec_nope x w (by omega) hd hok
  have H2 : Hid (∀ w, Calls Tryd.prog 24 #[.string x] w fun e w' => e = .returned (.tuple #[.slice none 0 0, .int .i64 0, .int .i64 (decE x)]) ∧ Below w.heap.size w w') := fun w => rdec_nope x w hx hok
  have H3 : Hid (∀ w, Calls Tryd.prog 16 #[.slice none 0 0, .slice none 0 0] w fun e w' => e = .returned (.bool true) ∧ Below w.heap.size w w') := fun w => rsame_any none [] 0 none [] 0 w (.inl rfl) (by simp) (.inl rfl) (by simp)
  clear hok
  generalize decE x = p at *
  go_enter Tryd.func7, Tryd.ntmps7
  go_wp2_with fail
  refine (H1.out _ hd).mono ?_
  rintro r w1 ⟨rfl, g1⟩
  go_wp2_with fail
  refine (H2.out _).mono ?_
  rintro r w2 ⟨rfl, g2'⟩
  have g2 := btr g1 g2' (Nat.le_refl _)
  clear g2'
  go_wp2_with fail
  refine (H3.out _).mono ?_
  rintro r w3 ⟨rfl, g3'⟩
  have g3 := btr g2 g3' (Nat.le_refl _)
  clear g3'
  go_wp2_with fail
  refine (HA.out _ (hd.below g3)).mono ?_
  rintro r w4 ⟨rfl, g4⟩
  go_wp2_with fail
  go_ret
  exact ⟨rfl, btr g3 g4 (Nat.le_refl _)⟩
theorem lawDecodes_walk (x : ByteArray) (w : World) (_ : x.size ≤ maxLen) (hd : Cd w) :
    Calls Tryd.prog 7 #[.string x] w fun e w' => e = .returned (.bool true) ∧ Below w.heap.size w w' := by
  by_cases hx : x.size ≤ 1000
  · by_cases hok : wholeOk x
    · exact lawDecodes_yes x w hd hx hok
    · exact lawDecodes_no x w hd hx hok
  · exact lawDecodes_long x w hd (by omega)
end Go.Proofs.YtjmnnjhaiecglaaDoor
