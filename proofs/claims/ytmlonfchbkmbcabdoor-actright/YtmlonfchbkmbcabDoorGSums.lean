/-
  What is answered in cells: a packet, two sums; what 'sumsOf' answers, as a contract.
-/
import Derived.Test.YtmlonfchbkmbcabDoorGWrite
import Derived.Laws.ResultCell
namespace Go.Proofs.YtmlonfchbkmbcabDoor.Fr
open Go.ChangeShapes Go.WideShapes Go.ChangeAt Go.RowKit

theorem load25 (w : World) (b : Nat) (p : Pk) (h : Bx w b p) : (loadVar 25 ⟨b, 0, none⟩).run Tryd.prog w = .ok (pkV p) w := by
  obtain ⟨h0, h1, h2, h3, h4, h5, h6, h7, h8, h9, h10⟩ := h
  simp [go_sem, *]
/-- Two sums lie in block b. -/
abbrev Sx (w : World) (b : Nat) (x y : Int) : Prop := w.cell? ⟨b, 0, none⟩ = some (.int .i64 x) ∧ w.cell? ⟨b, 1, none⟩ = some (.int .i64 y)
theorem Sx.below {w w' : World} {b B : Nat} {x y : Int} (h : Sx w b x y) (hb : b < B) (g : Below B w w') : Sx w' b x y := ⟨(g.cell hb).trans h.1, (g.cell hb).trans h.2⟩
theorem load40 (w : World) (b : Nat) (x y : Int) (h : Sx w b x y) : (loadVar 49 ⟨b, 0, none⟩).run Tryd.prog w = .ok (.agg #[.int .i64 x, .int .i64 y]) w := by
  obtain ⟨h0, h1⟩ := h
  simp [go_sem, *]
theorem res40 {fn : Func} {t : Tmp} (h : fn.results = #[.cell t 49]) {tmps : Array Value} {w : World} {b : Nat} {x y : Int} (ht : tmps.getD t undef = .pointer (some ⟨b, 0, none⟩)) (hs : Sx w b x y) :
    (results fn tmps).run Tryd.prog w = .ok (.agg #[.int .i64 x, .int .i64 y]) w := by
  have ht' : tmps[t]?.getD undef = .pointer (some ⟨b, 0, none⟩) := by simpa using ht
  simp [results, h, ht', asAddr, load40 w b x y hs]
theorem res25 {fn : Func} {t u : Tmp} (h : fn.results = #[.cell t 25, .tmp u]) {tmps : Array Value} {w : World} {b : Nat} {p : Pk} (ht : tmps.getD t undef = .pointer (some ⟨b, 0, none⟩)) (hs : Bx w b p) :
    (results fn tmps).run Tryd.prog w = .ok (.tuple #[pkV p, tmps.getD u undef]) w := by
  have ht' : tmps[t]?.getD undef = .pointer (some ⟨b, 0, none⟩) := by simpa using ht
  simp [results, h, ht', asAddr, load25 w b p hs]
theorem res2540 {fn : Func} {t u : Tmp} (h : fn.results = #[.cell t 25, .cell u 49]) {tmps : Array Value} {w : World} {b c : Nat} {p : Pk} {x y : Int} (ht : tmps.getD t undef = .pointer (some ⟨b, 0, none⟩)) (hu : tmps.getD u undef = .pointer (some ⟨c, 0, none⟩)) (hs : Bx w b p) (hs' : Sx w c x y) :
    (results fn tmps).run Tryd.prog w = .ok (.tuple #[pkV p, .agg #[.int .i64 x, .int .i64 y]]) w := by
  have ht' : tmps[t]?.getD undef = .pointer (some ⟨b, 0, none⟩) := by simpa using ht
  have hu' : tmps[u]?.getD undef = .pointer (some ⟨c, 0, none⟩) := by simpa using hu
  simp [results, h, ht', hu', asAddr, load25 w b p hs, load40 w c x y hs']
theorem res2533 {fn : Func} {t u v : Tmp} (h : fn.results = #[.cell t 25, .tmp u, .tmp v]) {tmps : Array Value} {w : World} {b : Nat} {p : Pk} (ht : tmps.getD t undef = .pointer (some ⟨b, 0, none⟩)) (hs : Bx w b p) :
    (results fn tmps).run Tryd.prog w = .ok (.tuple #[pkV p, tmps.getD u undef, tmps.getD v undef]) w := by
  have ht' : tmps[t]?.getD undef = .pointer (some ⟨b, 0, none⟩) := by simpa using ht
  simp [results, h, ht', asAddr, load25 w b p hs]

/-- A row of two sums that may be written lies in block b. -/
abbrev Rx (w : World) (b : Nat) : Prop := w.cell? ⟨b, 0, none⟩ = some (.int .i64 0) ∧ w.cell? ⟨b, 1, none⟩ = some (.int .i64 0) ∧ w.frozen? ⟨b, 0, none⟩ = false ∧ w.frozen? ⟨b, 1, none⟩ = false
theorem Rx.below {w w' : World} {b B : Nat} (h : Rx w b) (hb : b < B) (g : Below B w w') : Rx w' b := ⟨(g.cell hb).trans h.1, (g.cell hb).trans h.2.1, (g.frozen hb).trans h.2.2.1, (g.frozen hb).trans h.2.2.2⟩

set_option maxHeartbeats 1000000 in
theorem sumsOf_any (p : Pk) (w : World) (h : Ok p) :
    Calls Tryd.prog 19 #[pkV p] w fun x w' => x = .returned (.agg #[.int .i64 (sumA p), .int .i64 (sumB p)]) ∧ Below w.heap.size w w' := by
  have HO : Hid (Ok p) := h
  clear h
  unfold sumA sumB
  by_cases ht : p.ty = 2048
  · have bt : (p.ty != 2048) = false := by simp [ht]
    rw [if_pos ht, if_pos ht]
    clear ht
    have hS : Hid (∀ w, Calls Tryd.prog 37 #[.string (headV p 0)] w fun x w' => x = .returned (.int .i64 (headSumV p)) ∧ w' = w) := fun w => sum_any (headV p 0) w (by rw [headV_size]; omega)
    have gb : Below (bx w p).heap.size (bx w p) ((bx w p).alloc (.cells #[.int .i64 0, .int .i64 0] 49)) := by go_grown
    have hb : Bx ((bx w p).alloc (.cells #[.int .i64 0, .int .i64 0] 49)) w.heap.size p := (Bx.new w p).below (by simp [bx]) gb
    have hr : Rx ((bx w p).alloc (.cells #[.int .i64 0, .int .i64 0] 49)) (w.heap.size + 1) := by unfold Rx bx; simp
    go_enter Tryd.func19, Tryd.ntmps19
    go_wp2_with fail
    have hbd : Bx ((bx w p).alloc (.cells #[.int .i64 0, .int .i64 0] 49)).drew w.heap.size p := hb
    have hrd : Rx ((bx w p).alloc (.cells #[.int .i64 0, .int .i64 0] 49)).drew (w.heap.size + 1) := hr
    go_region_with (first
      | (go_at_call 35; refine (head_any p 0 _ HO.out (by omega) (by omega)).mono ?_; rintro x w1 ⟨rfl, g1⟩; have hb1 := hbd.below (by simp <;> omega) g1; obtain ⟨i0, i1, i2, i3, i4, i5, i6, i7, i8, i9, i10⟩ := hb1; have r1 := hrd.below (by simp <;> omega) g1; obtain ⟨j0, j1, j2, j3⟩ := id r1)
      | (go_at_call 37; refine (hS.out _).mono ?_; rintro x w2 ⟨rfl, rfl⟩)
      | (go_at_call 38; refine (partSum_any p _ HO.out).mono ?_; rintro x w3 ⟨rfl, g3⟩; have r2 := Rx.below ⟨j0, j1, j2, j3⟩ (Nat.lt_of_lt_of_le (by simp <;> omega) g1.size) g3; obtain ⟨k0, k1, k2, k3⟩ := r2))
    all_goals
      go_wp2
      refine bodyPost_ret (res40 (b := w.heap.size + 1) (x := headSumV p) (y := partSumV p) rfl rfl ?_) rfl ?_
      · exact ⟨(World.cell?_setCell_other _ _ _ _ (by simp)).trans (World.cell?_setCell_same _ _ _ k0), World.cell?_setCell_same _ _ _ ((World.cell?_setCell_other _ _ _ _ (by simp)).trans k1)⟩
      · exact ⟨rfl, ((btr (btr (by go_grown) g1 (by simp <;> omega)) g3 (by simp <;> omega)).setCell (by simp) _).setCell (by simp) _⟩
  · have bt : (p.ty != 2048) = true := by simp [ht]
    rw [if_neg ht, if_neg ht]
    clear ht
    go_enter Tryd.func19, Tryd.ntmps19
    go_wp2
    refine bodyPost_ret (res40 (b := w.heap.size + 1) (x := 0) (y := 0) rfl rfl (by unfold Sx; simp)) rfl ?_
    exact ⟨rfl, by go_grown⟩
end Go.Proofs.YtmlonfchbkmbcabDoor.Fr
