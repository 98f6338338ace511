/-
  What rightBehind and Right answer, as contracts.
-/
import Derived.Test.YtjjfhibkcngphaaGreatDoorMStand
namespace Go.Proofs.YtjjfhibkcngphaaGreatDoor.Mt
open Go.ChangeShapes Go.WideShapes Go.ChangeAt Go.RowKit

set_option maxHeartbeats 2000000 in
theorem behind_none (t : T) (v : Value) (w : World) (h : wdV t.1 = 0) : Calls Tryz.prog 72 #[tV t, v] w fun e w' => e = .returned (.int .i64 20) ∧ Below w.heap.size w w' := by
  have HW : Hid (∀ w, Calls Tryz.prog 79 #[.int .i64 t.1] w fun e w' => e = .returned (.int .i64 0) ∧ w' = w) := fun w => h ▸ width_any t.1 w
  clear h
  go_enter Tryz.func72, Tryz.ntmps72
  go_wp2_with fail
  refine (HW.out _).mono ?_
  rintro x w1 ⟨rfl, rfl⟩
  go_wp2_with fail
  go_ret
  exact ⟨rfl, by go_grown⟩


set_option maxHeartbeats 4000000 in
theorem behind_first_fit (t : T) (a : Option Addr) (cap : Nat) (w : World) (h : (wdV t.1 == 0) = false) (h2 : fitB t = false) :
    Calls Tryz.prog 72 #[tV t, .slice a 0 cap] w fun e w' => e = .returned (.int .i64 21) ∧ Below w.heap.size w w' := by
  have HW : Hid (∀ w, Calls Tryz.prog 79 #[.int .i64 t.1] w fun e w' => e = .returned (.int .i64 (wdV t.1)) ∧ w' = w) := fun w => width_any t.1 w
  have HF : Hid (∀ w, Calls Tryz.prog 82 #[tV t] w fun e w' => e = .returned (.bool false) ∧ Below w.heap.size w w') := fun w => h2 ▸ fits_any t w
  clear h2
  have q := C3.gr (C3.new w t) (by simp)
  have q0 := fun n => (q n).1
  clear q
  generalize wdV t.1 = y at *
  go_enter Tryz.func72, Tryz.ntmps72
  go_wp2_with fail
  refine (HW.out _).mono ?_
  rintro x w1 ⟨rfl, rfl⟩
  go_wp2_with fail
  refine wp_region_grow (by kernel_rfl) (by kernel_rfl) ?_
  repeat (go_big_quiet_step (fail))
  refine wpQuiet_nil ?_
  rintro w1 hw'
  have g1 := gr_elim hw'
  clear hw'
  have hz := Nat.lt_of_lt_of_le (show w.heap.size < (tx w t).heap.size by simp) g1.size
  have c := (C3.new w t).below (by simp) g1
  have c' := c
  obtain ⟨c0, c1, c2⟩ := c'
  go_wp2_with fail
  refine (HF.out _).mono ?_
  rintro x w2 ⟨rfl, g2⟩
  have k := C3.below (t := t) c hz g2
  clear c0 c1 c2 c
  obtain ⟨c0, c1, c2⟩ := k
  have g3 : Below w.heap.size w w2 := btr (btr (by go_grown) g1 (by simp)) g2 (by simp)
  go_wp2_with fail
  go_ret
  exact ⟨rfl, g3⟩

set_option maxHeartbeats 4000000 in
theorem behind_first_std (t : T) (a : Option Addr) (cap : Nat) (w : World) (h : (wdV t.1 == 0) = false) (h2 : fitB t = true) (b : Bool) (HS : Hid (∀ w', Below w.heap.size w w' → Calls Tryz.prog 83 #[.int .i64 t.1, .slice a 0 cap] w' fun e w'' => e = .returned (.bool b) ∧ Below w'.heap.size w' w'')) :
    Calls Tryz.prog 72 #[tV t, .slice a 0 cap] w fun e w' => e = .returned (.int .i64 (if b = true then 0 else 21)) ∧ Below w.heap.size w w' := by
  have HW : Hid (∀ w, Calls Tryz.prog 79 #[.int .i64 t.1] w fun e w' => e = .returned (.int .i64 (wdV t.1)) ∧ w' = w) := fun w => width_any t.1 w
  have HF : Hid (∀ w, Calls Tryz.prog 82 #[tV t] w fun e w' => e = .returned (.bool true) ∧ Below w.heap.size w w') := fun w => h2 ▸ fits_any t w
  clear h2
  have q := C3.gr (C3.new w t) (by simp)
  have q0 := fun n => (q n).1
  clear q
  generalize wdV t.1 = y at *
  cases b
  all_goals
    go_enter Tryz.func72, Tryz.ntmps72
    go_wp2_with fail
    refine (HW.out _).mono ?_
    rintro x w1 ⟨rfl, rfl⟩
    go_wp2_with fail
    refine wp_region_grow (by kernel_rfl) (by kernel_rfl) ?_
    repeat (go_big_quiet_step (fail))
    refine wpQuiet_nil ?_
    rintro w1 hw'
    have g1 := gr_elim hw'
    clear hw'
    have hz := Nat.lt_of_lt_of_le (show w.heap.size < (tx w t).heap.size by simp) g1.size
    have c := (C3.new w t).below (by simp) g1
    have c' := c
    obtain ⟨c0, c1, c2⟩ := c'
    go_wp2_with fail
    refine (HF.out _).mono ?_
    rintro x w2 ⟨rfl, g2⟩
    have k := C3.below (t := t) c hz g2
    clear c0 c1 c2 c
    obtain ⟨c0, c1, c2⟩ := k
    have g3 : Below w.heap.size w w2 := btr (btr (by go_grown) g1 (by simp)) g2 (by simp)
    go_wp2_with fail
    refine (HS.out _ g3).mono ?_
    rintro x w3 ⟨rfl, g4⟩
    go_wp2_with fail
    go_ret
    exact ⟨rfl, btr g3 g4 (by simp)⟩

set_option maxHeartbeats 4000000 in
theorem behind_later_le (t : T) (g o k : Nat) (z : Int) (cap : Nat) (w : World) (h : (wdV t.1 == 0) = false) (hg : g < w.heap.size) (hk : k + 1 ≤ 100000) (hz : w.cell? ⟨g, o + k * 3, none⟩ = some (.int .i64 z)) (hle : decide (t.1 ≤ z) = true) :
    Calls Tryz.prog 72 #[tV t, .slice (some ⟨g, o, none⟩) (k + 1) cap] w fun e w' => e = .returned (.int .i64 21) ∧ Below w.heap.size w w' := by
  have HW : Hid (∀ w, Calls Tryz.prog 79 #[.int .i64 t.1] w fun e w' => e = .returned (.int .i64 (wdV t.1)) ∧ w' = w) := fun w => width_any t.1 w
  have q := C3.gr (C3.new w t) (by simp)
  have q0 := fun n => (q n).1
  clear q
  have r0 : ∀ n : GrT (tx w t), n.w.cell? ⟨g, o + k * 3, none⟩ = some (.int .i64 z) := fun n => (n.h.cell (show g < (tx w t).heap.size by simp; omega)).trans ((World.cell?_of_block (w := w) (heap_alloc_old w _ hg)).trans hz)
  clear hz
  generalize wdV t.1 = y at *
  go_enter Tryz.func72, Tryz.ntmps72
  go_wp2_with fail
  refine (HW.out _).mono ?_
  rintro x w1 ⟨rfl, rfl⟩
  go_wp2_with fail
  refine wp_region_grow (by kernel_rfl) (by kernel_rfl) ?_
  repeat (go_big_quiet_step (fail))
  refine wpQuiet_nil ?_
  rintro w1 hw'
  have g1 := gr_elim hw'
  clear hw'
  have hz := Nat.lt_of_lt_of_le (show w.heap.size < (tx w t).heap.size by simp) g1.size
  have c := (C3.new w t).below (by simp) g1
  have c' := c
  obtain ⟨c0, c1, c2⟩ := c'
  go_wp2_with fail
  go_ret
  exact ⟨rfl, btr (by go_grown) g1 (by simp)⟩

set_option maxHeartbeats 4000000 in
theorem behind_later_fit (t : T) (g o k : Nat) (z : Int) (cap : Nat) (w : World) (h : (wdV t.1 == 0) = false) (hg : g < w.heap.size) (hk : k + 1 ≤ 100000) (hz : w.cell? ⟨g, o + k * 3, none⟩ = some (.int .i64 z)) (hle : decide (t.1 ≤ z) = false) (h2 : fitB t = false) :
    Calls Tryz.prog 72 #[tV t, .slice (some ⟨g, o, none⟩) (k + 1) cap] w fun e w' => e = .returned (.int .i64 21) ∧ Below w.heap.size w w' := by
  have HW : Hid (∀ w, Calls Tryz.prog 79 #[.int .i64 t.1] w fun e w' => e = .returned (.int .i64 (wdV t.1)) ∧ w' = w) := fun w => width_any t.1 w
  have HF : Hid (∀ w, Calls Tryz.prog 82 #[tV t] w fun e w' => e = .returned (.bool false) ∧ Below w.heap.size w w') := fun w => h2 ▸ fits_any t w
  clear h2
  have q := C3.gr (C3.new w t) (by simp)
  have q0 := fun n => (q n).1
  clear q
  have r0 : ∀ n : GrT (tx w t), n.w.cell? ⟨g, o + k * 3, none⟩ = some (.int .i64 z) := fun n => (n.h.cell (show g < (tx w t).heap.size by simp; omega)).trans ((World.cell?_of_block (w := w) (heap_alloc_old w _ hg)).trans hz)
  clear hz
  generalize wdV t.1 = y at *
  go_enter Tryz.func72, Tryz.ntmps72
  go_wp2_with fail
  refine (HW.out _).mono ?_
  rintro x w1 ⟨rfl, rfl⟩
  go_wp2_with fail
  refine wp_region_grow (by kernel_rfl) (by kernel_rfl) ?_
  repeat (go_big_quiet_step (fail))
  refine wpQuiet_nil ?_
  rintro w1 hw'
  have g1 := gr_elim hw'
  clear hw'
  have hz := Nat.lt_of_lt_of_le (show w.heap.size < (tx w t).heap.size by simp) g1.size
  have c := (C3.new w t).below (by simp) g1
  have c' := c
  obtain ⟨c0, c1, c2⟩ := c'
  go_wp2_with fail
  refine (HF.out _).mono ?_
  rintro x w2 ⟨rfl, g2⟩
  have k := C3.below (t := t) c hz g2
  clear c0 c1 c2 c
  obtain ⟨c0, c1, c2⟩ := k
  have g3 : Below w.heap.size w w2 := btr (btr (by go_grown) g1 (by simp)) g2 (by simp)
  go_wp2_with fail
  go_ret
  exact ⟨rfl, g3⟩

set_option maxHeartbeats 4000000 in
theorem behind_later_std (t : T) (g o k : Nat) (z : Int) (cap : Nat) (w : World) (h : (wdV t.1 == 0) = false) (hg : g < w.heap.size) (hk : k + 1 ≤ 100000) (hz : w.cell? ⟨g, o + k * 3, none⟩ = some (.int .i64 z)) (hle : decide (t.1 ≤ z) = false) (h2 : fitB t = true) (b : Bool) (HS : Hid (∀ w', Below w.heap.size w w' → Calls Tryz.prog 83 #[.int .i64 t.1, .slice (some ⟨g, o, none⟩) (k + 1) cap] w' fun e w'' => e = .returned (.bool b) ∧ Below w'.heap.size w' w'')) :
    Calls Tryz.prog 72 #[tV t, .slice (some ⟨g, o, none⟩) (k + 1) cap] w fun e w' => e = .returned (.int .i64 (if b = true then 0 else 21)) ∧ Below w.heap.size w w' := by
  have HW : Hid (∀ w, Calls Tryz.prog 79 #[.int .i64 t.1] w fun e w' => e = .returned (.int .i64 (wdV t.1)) ∧ w' = w) := fun w => width_any t.1 w
  have HF : Hid (∀ w, Calls Tryz.prog 82 #[tV t] w fun e w' => e = .returned (.bool true) ∧ Below w.heap.size w w') := fun w => h2 ▸ fits_any t w
  clear h2
  have q := C3.gr (C3.new w t) (by simp)
  have q0 := fun n => (q n).1
  clear q
  have r0 : ∀ n : GrT (tx w t), n.w.cell? ⟨g, o + k * 3, none⟩ = some (.int .i64 z) := fun n => (n.h.cell (show g < (tx w t).heap.size by simp; omega)).trans ((World.cell?_of_block (w := w) (heap_alloc_old w _ hg)).trans hz)
  clear hz
  generalize wdV t.1 = y at *
  cases b
  all_goals
    go_enter Tryz.func72, Tryz.ntmps72
    go_wp2_with fail
    refine (HW.out _).mono ?_
    rintro x w1 ⟨rfl, rfl⟩
    go_wp2_with fail
    refine wp_region_grow (by kernel_rfl) (by kernel_rfl) ?_
    repeat (go_big_quiet_step (fail))
    refine wpQuiet_nil ?_
    rintro w1 hw'
    have g1 := gr_elim hw'
    clear hw'
    have hz := Nat.lt_of_lt_of_le (show w.heap.size < (tx w t).heap.size by simp) g1.size
    have c := (C3.new w t).below (by simp) g1
    have c' := c
    obtain ⟨c0, c1, c2⟩ := c'
    go_wp2_with fail
    refine (HF.out _).mono ?_
    rintro x w2 ⟨rfl, g2⟩
    have k := C3.below (t := t) c hz g2
    clear c0 c1 c2 c
    obtain ⟨c0, c1, c2⟩ := k
    have g3 : Below w.heap.size w w2 := btr (btr (by go_grown) g1 (by simp)) g2 (by simp)
    go_wp2_with fail
    refine (HS.out _ g3).mono ?_
    rintro x w3 ⟨rfl, g4⟩
    go_wp2_with fail
    go_ret
    exact ⟨rfl, btr g3 g4 (by simp)⟩
end Go.Proofs.YtjjfhibkcngphaaGreatDoor.Mt
