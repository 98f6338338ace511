/-
  GroupNil: what a nil table answers; the law's function, walked.
-/
import Derived.Test.YteodlkgbakkjmaaDoorOpen
namespace Go.Proofs.YteodlkgbakkjmaaDoor
open Go.ChangeShapes Go.WideShapes Go.ChangeAt Go.RowKit
set_option linter.unusedVariables false

set_option maxHeartbeats 1000000 in
theorem add_nil (g : Gr) (w : World) : Calls Tryd.prog 12 #[.pointer none, gV g] w fun e w' => e = .returned (.int .i64 2) ∧ Below w.heap.size w w' := by
  go_enter Tryd.func12, Tryd.ntmps12
  go_wp2_with fail
  go_ret
  exact ⟨rfl, by go_grown⟩
set_option maxHeartbeats 1000000 in
theorem modify_nil (g : Gr) (w : World) : Calls Tryd.prog 14 #[.pointer none, gV g] w fun e w' => e = .returned (.int .i64 2) ∧ Below w.heap.size w w' := by
  go_enter Tryd.func14, Tryd.ntmps14
  go_wp2_with fail
  go_ret
  exact ⟨rfl, by go_grown⟩
set_option maxHeartbeats 1000000 in
theorem delete_nil (i : Int) (w : World) : Calls Tryd.prog 16 #[.pointer none, .int .i64 i] w fun e w' => e = .returned (.int .i64 2) ∧ w' = w := by
  go_enter Tryd.func16, Tryd.ntmps16
  go_wp2_with fail
  go_ret
  exact ⟨rfl, rfl⟩
set_option maxHeartbeats 1000000 in
theorem list_nil (w : World) : Calls Tryd.prog 22 #[.pointer none] w fun e w' => e = .returned (.slice none 0 0) ∧ w' = w := by
  go_enter Tryd.func22, Tryd.ntmps22
  go_wp2_with fail
  go_ret
  exact ⟨rfl, rfl⟩
def gr0 : Gr := ⟨0, 0, none, [], 0⟩
set_option maxHeartbeats 2000000 in
theorem get_nil (i : Int) (w : World) : Calls Tryd.prog 18 #[.pointer none, .int .i64 i] w fun e w' => e = .returned (.tuple #[gV gr0, .int .i64 2]) ∧ Below w.heap.size w w' := by
  go_enter Tryd.func18, Tryd.ntmps18
  go_wp2_with fail
  refine bodyPost_ret (resGe (b := w.heap.size) (t := gr0) rfl rfl ⟨by simp [gr0], by simp [gr0], by simp [gr0]⟩) rfl ?_
  exact ⟨rfl, by go_grown⟩
set_option maxRecDepth 20000 in
set_option maxHeartbeats 4000000 in
theorem nil_walk (g : Gr) (w : World) (hg : GIn w g) (hd : Cd w) : Calls Tryd.prog 7 #[gV g] w fun e w' => e = .returned (.bool true) ∧ Below w.heap.size w w' := by
  have HG : Hid (∀ w, Calls Tryd.prog 18 #[.pointer none, .int .i64 g.id] w fun e w' => e = .returned (.tuple #[gV gr0, .int .i64 2]) ∧ Below w.heap.size w w') := (show ∀ w, _ from fun w => get_nil g.id w)
  have HA : Hid (∀ w, Calls Tryd.prog 12 #[.pointer none, gV g] w fun e w' => e = .returned (.int .i64 2) ∧ Below w.heap.size w w') := (show ∀ w, _ from fun w => add_nil g w)
  have HM : Hid (∀ w, Calls Tryd.prog 14 #[.pointer none, gV g] w fun e w' => e = .returned (.int .i64 2) ∧ Below w.heap.size w w') := (show ∀ w, _ from fun w => modify_nil g w)
  have HDl : Hid (∀ w, Calls Tryd.prog 16 #[.pointer none, .int .i64 g.id] w fun e w' => e = .returned (.int .i64 2) ∧ w' = w) := (show ∀ w, _ from fun w => delete_nil g.id w)
  have HL : Hid (∀ w, Calls Tryd.prog 22 #[.pointer none] w fun e w' => e = .returned (.slice none 0 0) ∧ w' = w) := (show ∀ w, _ from fun w => list_nil w)
  have HAw : Hid (∀ w1, Below w.heap.size w w1 → Calls Tryd.prog 10 #[] w1 fun e w' => e = .returned (.bool true) ∧ Below w1.heap.size w1 w') := (show ∀ w1, _ from fun w1 k => awake_any w1 (hd.below k))
  obtain ⟨V, hV⟩ : ∃ V, gx w g = V := ⟨_, rfl⟩
  have GV : Below w.heap.size w V := by rw [← hV]; go_grown
  have zV : w.heap.size < V.heap.size := by rw [← hV]; simp
  have hc := Cg.new w g
  rw [hV] at hc
  have HX : Hid (∀ w', Below V.heap.size V w' → (w'.cell? ⟨w.heap.size, 0, none⟩ = some (.int .i64 g.id) ∧ w'.cell? ⟨w.heap.size, 1, none⟩ = some (.int .i64 g.kd) ∧ w'.cell? ⟨w.heap.size, 2, none⟩ = some (.slice g.a g.l.length g.c)) ∧ Below w.heap.size w w') := (show ∀ w', _ from fun w' k => ⟨hc.below zV k, btr GV k (Nat.le_refl _)⟩)
  have HV : Hid (w.alloc (.cells #[.int .i64 g.id, .int .i64 g.kd, .slice g.a g.l.length g.c] 33) = V) := hV
  have HZ : Hid (w.heap.size < V.heap.size) := zV
  clear hc hV hd hg zV GV
  go_enter Tryd.func7, Tryd.ntmps7
  go_wp2_with fail
  rw [HV.out]
  refine (HG.out _).mono ?_
  rintro e w1 ⟨rfl, g1⟩
  obtain ⟨⟨c0, c1, c2⟩, G1⟩ := HX.out w1 g1
  have z1 : w.heap.size < w1.heap.size := Nat.lt_of_lt_of_le HZ.out g1.size
  have Hg1 : Hid (Below V.heap.size V w1) := g1
  unfold gr0
  clear g1 G1
  go_wp2_with fail
  refine (HA.out _).mono ?_
  rintro e w2 ⟨rfl, g2⟩
  have Hg2 : Hid (Below V.heap.size V w2) := (show Below _ _ _ from btr (btr Hg1.out (by go_grown) (Nat.le_refl _)) g2 (Nat.le_refl _))
  obtain ⟨⟨d0, d1, d2⟩, G2⟩ := HX.out w2 Hg2.out
  clear c0 c1 c2 g2 z1 G2
  go_wp2_with fail
  refine (HM.out _).mono ?_
  rintro e w3 ⟨rfl, g3⟩
  have Hg3 : Hid (Below V.heap.size V w3) := (show Below _ _ _ from btr Hg2.out g3 (Nat.le_refl _))
  obtain ⟨⟨e0, e1, e2⟩, G3⟩ := HX.out w3 Hg3.out
  clear d0 d1 d2 g3 G3
  go_wp2_with (first | (go_at_call 16; refine (HDl.out _).mono ?_; rintro e w' ⟨rfl, rfl⟩) | (go_at_call 22; refine (HL.out _).mono ?_; rintro e w' ⟨rfl, rfl⟩))
  refine (HAw.out _ (HX.out _ Hg3.out).2).mono ?_
  rintro e w4 ⟨rfl, g4⟩
  have G4 : Below w.heap.size w w4 := btr (HX.out _ Hg3.out).2 g4 (Nat.le_refl _)
  clear g4 e0 e1 e2
  go_wp2_with fail
  go_ret
  exact ⟨rfl, G4⟩
end Go.Proofs.YteodlkgbakkjmaaDoor
