/-
  The walk of InstrEncodes.
-/
import Derived.Test.YtcbhkbiofmimbaaDoorRCode
namespace Go.Proofs.YtcbhkbiofmimbaaDoor
open Go.ChangeShapes Go.WideShapes Go.ChangeAt Go.RowKit

set_option maxRecDepth 20000 in
set_option maxHeartbeats 8000000 in
theorem encodes_walk (x : En) (w : World) (h : EIn w x) (hd : Cd w) :
    Calls Tryd.prog 4 #[enV x] w fun e w' => e = .returned (.bool true) ∧ Below w.heap.size w w' := by
  have HA : Hid (∀ w, Cd w → Calls Tryd.prog 11 #[] w fun e w' => e = .returned (.bool true) ∧ Below w.heap.size w w') := (show ∀ w, _ from fun w hd => awake_any w hd)
  have HFw : Hid (∀ w, Calls Tryd.prog 8 #[enV x] w fun e w' => e = .returned (.bool (fewB x)) ∧ Below w.heap.size w w') := (show ∀ w, _ from fun w => few_any x w)
  have HC : Hid (∀ w1, Below (ex w x).heap.size (ex w x) w1 → Bn w1 w.heap.size x) := (show ∀ w1, _ from fun w1 g => (Bn.new w x).below (by simp) g)
  have HD : Hid (Cd w) := hd
  cases hf : fewB x with
  | false =>
    rw [hf] at HFw
    clear h hd hf
    go_enter Tryd.func4, Tryd.ntmps4
    go_wp2_with fail
    refine (HFw.out _).mono ?_
    rintro r w1 ⟨rfl, g1⟩
    have G1 : Below w.heap.size w w1 := btr (by go_grown) g1 (by simp)
    go_wp2_with fail
    refine (HA.out _ (HD.out.below G1)).mono ?_
    rintro r w3 ⟨rfl, g3⟩
    go_wp2_with fail
    go_ret
    exact ⟨rfl, btr G1 g3 (by simp)⟩
  | true =>
    rw [hf] at HFw
    have f := hf
    unfold fewB at f
    simp at f
    have ew : EW w x := ⟨h.a, h.w, by omega, by omega⟩
    have H1 : Hid (∀ w1, Below (ex w x).heap.size (ex w x) w1 → Calls Tryd.prog 12 #[enV x] w1 fun e w' => e = .returned (.tuple #[.string (encodeX x.sp), .int .i64 (rightX x.sp)]) ∧ Below w1.heap.size w1 w') := (show ∀ w1, _ from fun w1 g => encodeX_any x w1 ((ew.alloc _).below g) h.u ((hd.alloc _).below g))
    have H2 : Hid (∀ w1, Below (ex w x).heap.size (ex w x) w1 → Calls Tryd.prog 13 #[enV x] w1 fun e w' => e = .returned (.tuple #[.string (encodeX x.sp), .int .i64 (rightX x.sp)]) ∧ Below w1.heap.size w1 w') := (show ∀ w1, _ from fun w1 g => renc_any x w1 ((ew.alloc _).below g) h.va h.vw h.u)
    have hq : (rightX x.sp == rightX x.sp) = true := by simp
    have hs : ((encodeX x.sp).toList == (encodeX x.sp).toList) = true := by simp
    clear h hd hf f ew
    generalize rightX x.sp = R at *
    generalize encodeX x.sp = S at *
    go_enter Tryd.func4, Tryd.ntmps4
    go_wp2_with fail
    refine (HFw.out _).mono ?_
    rintro r w1 ⟨rfl, g1⟩
    obtain ⟨c0, c1, c2, c3, c4, c5, c6, c7, c8, c9⟩ := HC.out _ g1
    go_wp2_with fail
    refine (H1.out _ g1).mono ?_
    rintro r w2 ⟨rfl, g2'⟩
    have g2 := btr g1 g2' (by simp)
    clear c0 c1 c2 c3 c4 c5 c6 c7 c8 c9 g1 g2'
    obtain ⟨c0, c1, c2, c3, c4, c5, c6, c7, c8, c9⟩ := HC.out _ g2
    go_wp2_with fail
    refine (H2.out _ g2).mono ?_
    rintro r w3 ⟨rfl, g3'⟩
    have g3 := btr g2 g3' (by simp)
    clear c0 c1 c2 c3 c4 c5 c6 c7 c8 c9 g2 g3'
    have G3 : Below w.heap.size w w3 := btr (by go_grown) g3 (by simp)
    go_wp2_with fail
    refine (HA.out _ (HD.out.below G3)).mono ?_
    rintro r w4 ⟨rfl, g4⟩
    go_wp2_with fail
    go_ret
    exact ⟨rfl, btr G3 g4 (by simp)⟩
end Go.Proofs.YtcbhkbiofmimbaaDoor
