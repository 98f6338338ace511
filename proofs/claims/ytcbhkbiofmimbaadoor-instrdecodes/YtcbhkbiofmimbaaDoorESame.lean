/-
  What the document's Same answers of entries that do the same; what few answers, as contracts.
-/
import Derived.Test.YtcbhkbiofmimbaaDoorEAwake
import Derived.Test.YtcbhkbiofmimbaaDoorSame
namespace Go.Proofs.YtcbhkbiofmimbaaDoor
open Go.ChangeShapes Go.WideShapes Go.ChangeAt Go.RowKit
set_option linter.unusedSimpArgs false

theorem eqI (a : Int) : (a == a) = true := by simp
theorem eqBo (a : Bool) : (a == a) = true := by simp
set_option maxRecDepth 20000 in
set_option maxHeartbeats 8000000 in
theorem sameE (x y : En) (w : World) (e : y.sp = x.sp) (hx : EW w x) (hy : EW w y) :
    Calls Tryd.prog 16 #[enV x, enV y] w fun e w' => e = .returned (.bool true) ∧ Below w.heap.size w w' := by
  obtain ⟨tab, pri, ta, tl, tc, aa, la, ca, aw, lw, cw, clr, mt, mm, met, go⟩ := y
  simp only [En.sp, Sp.mk.injEq] at e
  obtain ⟨rfl, rfl, rfl, rfl, rfl, rfl, rfl, rfl⟩ := e
  obtain ⟨W2, hW2⟩ : ∃ W2, (ex w x).alloc (.cells #[.int .i64 x.tab, .int .i64 pri, .slice ta tl tc, .slice aa x.la.length ca, .slice aw x.lw.length cw, .bool x.clr, .int .u64 x.mt, .int .u64 x.mm, .int .i64 x.met, .int .i64 x.go] 26) = W2 := ⟨_, rfl⟩
  have g2 : Below w.heap.size w W2 := by rw [← hW2]; go_grown
  have h2 : W2.heap.size = w.heap.size + 2 := by rw [← hW2]; simp
  have x2 : Bn W2 w.heap.size x := by rw [← hW2]; exact (Bn.new w x).below (B := w.heap.size + 1) (by omega) (by go_grown)
  have y2 : Bn W2 (w.heap.size + 1) ⟨x.tab, pri, ta, tl, tc, aa, x.la, ca, aw, x.lw, cw, x.clr, x.mt, x.mm, x.met, x.go⟩ := by
    rw [← hW2]
    have := Bn.new (ex w x) ⟨x.tab, pri, ta, tl, tc, aa, x.la, ca, aw, x.lw, cw, x.clr, x.mt, x.mm, x.met, x.go⟩
    simpa using this
  have HS1 : Hid (Calls Tryd.prog 27 #[.slice x.aa x.la.length x.ca, .slice aa x.la.length ca] W2 fun e w' => e = .returned (.bool true) ∧ Below W2.heap.size W2 w') := (show Calls _ _ _ _ _ from by
    have := same_any x.aa aa x.la x.la x.ca ca W2 (hx.a.below g2) (hy.a.below g2) hx.na hx.na
    rwa [show sameB x.la x.la = true by simp [sameB]] at this)
  have HS2 : Hid (∀ w3, Below W2.heap.size W2 w3 → Calls Tryd.prog 27 #[.slice x.aw x.lw.length x.cw, .slice aw x.lw.length cw] w3 fun e w' => e = .returned (.bool true) ∧ Below w3.heap.size w3 w') := (show ∀ w3, _ from fun w3 g3 => by
    have := same_any x.aw aw x.lw x.lw x.cw cw w3 ((hx.w.below g2).below g3) ((hy.w.below g2).below g3) hx.nw hx.nw
    rwa [show sameB x.lw x.lw = true by simp [sameB]] at this)
  have hE1 := eqI x.tab
  have hE2 := eqBo x.clr
  have hE3 := eqI x.mt
  have hE4 := eqI x.mm
  have hE5 := eqI x.met
  have hE6 := eqI x.go
  have HW2 : Hid ((ex w x).alloc (.cells #[.int .i64 x.tab, .int .i64 pri, .slice ta tl tc, .slice aa x.la.length ca, .slice aw x.lw.length cw, .bool x.clr, .int .u64 x.mt, .int .u64 x.mm, .int .i64 x.met, .int .i64 x.go] 26) = W2) := hW2
  clear hx hy hW2
  go_enter Tryd.func16, Tryd.ntmps16
  go_wp2_with fail
  rw [HW2.out]
  refine HS1.out.mono ?_
  rintro r w3 ⟨rfl, g3⟩
  have G3 := btr g2 g3 (by omega)
  have x3 := x2.below (by omega) g3
  have y3 := y2.below (by omega) g3
  obtain ⟨c0, c1, c2, c3, c4, c5, c6, c7, c8, c9⟩ := x3
  obtain ⟨d0, d1, d2, d3, d4, d5, d6, d7, d8, d9⟩ := y3
  go_wp2_with fail
  refine (HS2.out _ g3).mono ?_
  rintro r w4 ⟨rfl, g4⟩
  have K4 := btr g3 g4 (Nat.le_refl _)
  have G4 := btr G3 g4 (by have := g3.size; omega)
  clear c0 c1 c2 c3 c4 c5 c6 c7 c8 c9 d0 d1 d2 d3 d4 d5 d6 d7 d8 d9
  have x4 := x2.below (by omega) K4
  have y4 := y2.below (by omega) K4
  obtain ⟨c0, c1, c2, c3, c4, c5, c6, c7, c8, c9⟩ := x4
  obtain ⟨d0, d1, d2, d3, d4, d5, d6, d7, d8, d9⟩ := y4
  go_wp2_with fail
  go_ret
  exact ⟨rfl, G4⟩
def fewB (x : En) : Bool := decide (x.la.length ≤ 60) && decide (x.lw.length ≤ 60)
set_option maxHeartbeats 2000000 in
theorem few_any (x : En) (w : World) : Calls Tryd.prog 8 #[enV x] w fun e w' => e = .returned (.bool (fewB x)) ∧ Below w.heap.size w w' := by
  unfold fewB
  by_cases h1 : x.la.length ≤ 60
  · by_cases h2 : x.lw.length ≤ 60
    · have k1 : (x.la.length : Int) ≤ 60 := by omega
      have k2 : (x.lw.length : Int) ≤ 60 := by omega
      go_enter Tryd.func8, Tryd.ntmps8
      go_wp2_with fail
      go_ret
      exact ⟨ret_bool (by simp [h1, h2]), by go_grown⟩
    · have k1 : (x.la.length : Int) ≤ 60 := by omega
      have k2 : ¬ (x.lw.length : Int) ≤ 60 := by omega
      go_enter Tryd.func8, Tryd.ntmps8
      go_wp2_with fail
      go_ret
      exact ⟨ret_bool (by simp [h1, h2]), by go_grown⟩
  · have k1 : ¬ (x.la.length : Int) ≤ 60 := by omega
    go_enter Tryd.func8, Tryd.ntmps8
    go_wp2_with fail
    go_ret
    exact ⟨ret_bool (by simp [h1]), by go_grown⟩
end Go.Proofs.YtcbhkbiofmimbaaDoor
