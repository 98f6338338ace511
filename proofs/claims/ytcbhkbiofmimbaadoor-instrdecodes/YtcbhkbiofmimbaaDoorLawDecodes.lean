/-
  The walk of InstrDecodes.
-/
import Derived.Test.YtcbhkbiofmimbaaDoorRDec7
import Derived.Test.YtcbhkbiofmimbaaDoorESame
namespace Go.Proofs.YtcbhkbiofmimbaaDoor
open Go.ChangeShapes Go.WideShapes Go.ChangeAt Go.RowKit

set_option maxRecDepth 20000 in
set_option maxHeartbeats 16000000 in
theorem decodes_walk (t : Int) (d : ByteArray) (w : World) (_ : d.size ≤ maxLen) (hd : Cd w) :
    Calls Tryd.prog 5 #[.int .i64 t, .string d] w fun e w' => e = .returned (.bool true) ∧ Below w.heap.size w w' := by
  have HA : Hid (∀ w, Cd w → Calls Tryd.prog 11 #[] w fun e w' => e = .returned (.bool true) ∧ Below w.heap.size w w') := (show ∀ w, _ from fun w hd => awake_any w hd)
  have HD : Hid (Cd w) := hd
  by_cases hx : d.size ≤ 2000
  · have n2 : ¬ ((2000 : Int) < d.size) := by omega
    have hmx : d.size ≤ maxLen := Nat.le_trans hx (by decide)
    have H1 : Hid (Calls Tryd.prog 14 #[.int .i64 t, .string d] w fun e w' => ∃ y : En, e = .returned (.tuple #[enV y, .int .i64 (decX t d).2]) ∧ Hid (y.sp = (decX t d).1) ∧ Hid (y.pri = 0 ∧ y.tl = 0) ∧ Hid (EW w' y) ∧ Below w.heap.size w w') := (show Calls _ _ _ _ _ from by
      refine (decX_any t d w hmx hd).mono ?_
      rintro r w' ⟨y, rfl, h1, h2, h3, _, g⟩
      exact ⟨y, rfl, (show _ = _ from h1), (show _ ∧ _ from ⟨h2.1, h2.2.2.1⟩), (show EW _ _ from h3.ew), g⟩)
    have H2 : Hid (∀ w, Calls Tryd.prog 15 #[.int .i64 t, .string d] w fun e w' => ∃ z : En, e = .returned (.tuple #[enV z, .int .i64 (decX t d).2]) ∧ Hid (z.sp = (decX t d).1) ∧ Hid (EW w' z) ∧ Below w.heap.size w w') := (show ∀ w, _ from fun w => by
      refine (rdecX_any t d w hmx).mono ?_
      rintro r w' ⟨z, rfl, h1, _, h3, _, g⟩
      exact ⟨z, rfl, (show _ = _ from h1), (show EW _ _ from h3.ew), g⟩)
    have HSm : Hid (∀ (a b : En) (w : World), b.sp = a.sp → EW w a → EW w b → Calls Tryd.prog 16 #[enV a, enV b] w fun e w' => e = .returned (.bool true) ∧ Below w.heap.size w w') := (show ∀ (a b : En) (w : World), _ from fun a b w e h1 h2 => sameE a b w e h1 h2)
    have hq : ((decX t d).2 == (decX t d).2) = true := by simp
    clear hd hx hmx
    generalize decX t d = Z at *
    obtain ⟨Zs, E⟩ := Z
    simp only at H1 H2 hq
    go_enter Tryd.func5, Tryd.ntmps5
    go_wp2_with fail
    refine H1.out.mono ?_
    rintro r w1 ⟨y, rfl, HY1, HY2, HY3, g1⟩
    have G1 : Below w.heap.size w (ex w1 y) := g1.alloc g1.size _
    have s1 := g1.size
    have Y1 := Bn.new w1 y
    have HY4 : Hid (EW (ex w1 y) y) := (show EW _ _ from HY3.out.alloc _)
    obtain ⟨b1, hb1⟩ : ∃ b, w1.heap.size = b := ⟨_, rfl⟩
    have hz1 : (ex w1 y).heap.size = b1 + 1 := by simp [hb1]
    rw [hb1] at Y1
    clear g1 HY3
    go_wp2_with fail
    refine (H2.out _).mono ?_
    rintro r w2 ⟨z, rfl, HZ1, HZ2, g2'⟩
    have g2 : Below (ex w1 y).heap.size (ex w1 y) w2 := g2'
    clear g2'
    have G2 : Below w.heap.size w w2 := btr G1 g2 (by omega)
    have s2 : b1 + 1 ≤ w2.heap.size := by have := g2.size; omega
    have Y2 : Bn (ex w2 z) b1 y := (Y1.below (by omega) g2).below (B := w2.heap.size) (by omega) (by go_grown)
    have HY5 : Hid (EW (ex w2 z) y) := (show EW _ _ from (HY4.out.below g2).alloc _)
    have HZ3 : Hid (EW (ex w2 z) z) := (show EW _ _ from HZ2.out.alloc _)
    have HS2 : Hid (Calls Tryd.prog 16 #[enV y, enV z] (ex w2 z) fun e w' => e = .returned (.bool true) ∧ Below (ex w2 z).heap.size (ex w2 z) w') := (show Calls _ _ _ _ _ from HSm.out y z (ex w2 z) (by rw [HZ1.out, HY1.out]) HY5.out HZ3.out)
    have G2' : Below w.heap.size w (ex w2 z) := G2.alloc G2.size _
    have Y2' := Y2
    clear g2 Y1 G1 HY4 HZ2 HY5 HZ3 hz1 hb1 G2
    obtain ⟨c0, c1, c2, c3, c4, c5, c6, c7, c8, c9⟩ := Y2'
    go_wp2_with fail
    refine HS2.out.mono ?_
    rintro r w3 ⟨rfl, g3⟩
    have Y3 := Y2.below (by simp; omega) g3
    have G3 : Below w.heap.size w w3 := btr G2' g3 (Nat.le_refl _)
    clear c0 c1 c2 c3 c4 c5 c6 c7 c8 c9 g3 HS2 Y2 G2'
    obtain ⟨c0, c1, c2, c3, c4, c5, c6, c7, c8, c9⟩ := Y3
    rw [HY2.out.1] at c1
    rw [HY2.out.2] at c2
    go_wp2_with fail
    refine (HA.out _ (HD.out.below G3)).mono ?_
    rintro r w4 ⟨rfl, g4⟩
    go_wp2_with fail
    go_ret
    exact ⟨rfl, btr G3 g4 (by simp)⟩
  · have n2 : ((2000 : Int) < d.size) := by omega
    clear hd hx
    go_enter Tryd.func5, Tryd.ntmps5
    go_wp2_with fail
    refine (HA.out _ HD.out).mono ?_
    rintro r w4 ⟨rfl, g4⟩
    go_wp2_with fail
    go_ret
    exact ⟨rfl, g4⟩
end Go.Proofs.YtcbhkbiofmimbaaDoor
