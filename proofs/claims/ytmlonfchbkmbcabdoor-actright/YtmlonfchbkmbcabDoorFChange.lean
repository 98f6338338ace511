/-
  What change and Change answer, as contracts.
-/
import Derived.Test.YtmlonfchbkmbcabDoorFTags
namespace Go.Proofs.YtmlonfchbkmbcabDoor
open Go.ChangeShapes Go.WideShapes Go.ChangeAt Go.RowKit

/-- A packet behind an action, and what is wrong. -/
def chE (s : Sn) (a : A) : Int := if a.1 = 3 then pushE s 0 else if a.1 = 4 then popE s else if a.1 = 5 then putE s a.2.1 a.2.2 else 0
def chS (s : Sn) (a : A) : Sn := if a.1 = 3 then pushS s 0 else if a.1 = 4 then popS s else if a.1 = 5 then putS s a.2.1 a.2.2 else s
def changeV (s : Sn) (a : A) : Sn := if chE s a = 0 then chS s a else s
abbrev three (w : World) (s : Sn) (a : A) : World := ((bx w s).alloc (.cells (tC a) 29)).alloc (.cells (snC sn0) 27)
theorem Bx.three (w : World) (s : Sn) (a : A) : Bx (three w s a) w.heap.size s := by
  have h := (Bx.new w s).below (B := (bx w s).heap.size) (by simp) ((Below.refl _ _).alloc (Nat.le_refl _) (.cells (tC a) 29))
  exact h.below (B := ((bx w s).alloc (.cells (tC a) 29)).heap.size) (by simp; omega) ((Below.refl _ _).alloc (Nat.le_refl _) _)
theorem C3.three (w : World) (s : Sn) (a : A) : C3 (three w s a) (w.heap.size + 1) 0 a := by
  have h := C3.new (bx w s) a
  have e : (bx w s).heap.size = w.heap.size + 1 := by simp
  rw [e] at h
  exact h.below (B := ((bx w s).alloc (.cells (tC a) 29)).heap.size) (by simp) ((Below.refl _ _).alloc (Nat.le_refl _) _)
theorem Bw.three (w : World) (s : Sn) (a : A) : Bw (three w s a) (w.heap.size + 2) sn0 := by
  have h := Bw.new ((bx w s).alloc (.cells (tC a) 29)) sn0
  have e : ((bx w s).alloc (.cells (tC a) 29)).heap.size = w.heap.size + 2 := by simp
  rw [e] at h
  exact h
theorem Bx.third (w : World) (s : Sn) (a : A) : Bx (((bx w s).alloc (.cells (tC a) 29)).alloc (.cells (snC s) 27)) (w.heap.size + 2) s := by
  have h := Bx.new ((bx w s).alloc (.cells (tC a) 29)) s
  have e : ((bx w s).alloc (.cells (tC a) 29)).heap.size = w.heap.size + 2 := by simp
  rw [e] at h
  exact h
set_option maxHeartbeats 8000000 in
theorem change_call (k f v : Int) (s t : Sn) (e : Int) (w : World) (hk : k = 3 ∨ k = 4 ∨ k = 5)
    (H3 : Hid (k = 3 → ∀ w, Calls Tryd.prog 39 #[snV s, .int .u64 0] w fun x w' => x = .returned (.tuple #[snV t, .int .i64 e]) ∧ Below w.heap.size w w'))
    (H4 : Hid (k = 4 → ∀ w, Calls Tryd.prog 40 #[snV s] w fun x w' => x = .returned (.tuple #[snV t, .int .i64 e]) ∧ Below w.heap.size w w'))
    (H5 : Hid (k = 5 → ∀ w, Calls Tryd.prog 41 #[snV s, .int .i64 f, .int .u64 v] w fun x w' => x = .returned (.tuple #[snV t, .int .i64 e]) ∧ Below w.heap.size w w')) :
    Calls Tryd.prog 20 #[snV s, tV (k, f, v)] w fun x w' => x = .returned (.tuple #[snV t, .int .i64 e]) ∧ Below w.heap.size w w' := by
  rcases hk with rfl | rfl | rfl
  · have H := H3.out rfl
    have HH : Hid (∀ w, Calls Tryd.prog 39 #[snV s, .int .u64 0] w fun x w' => x = .returned (.tuple #[snV t, .int .i64 e]) ∧ Below w.heap.size w w') := H
    clear H H3 H4 H5
    go_enter Tryd.func20, Tryd.ntmps20
    go_wp2_with fail
    refine (HH.out _).mono ?_
    rintro x w1 ⟨rfl, g1⟩
    have D1 := (Bw.three w s (3, f, v)).below (by simp) g1
    have G1 : Below w.heap.size w w1 := btr (by go_grown) g1 (by first | (simp; done) | (simp; omega))
    have L1 : w.heap.size + 3 ≤ w1.heap.size := by have := g1.size; simp at this; omega
    clear g1
    have D2 := D1
    obtain ⟨⟨c0, c1, c2, c3, c4, c5, c6, c7, c8, c9, c10, c11, c12⟩, cf⟩ := D1
    go_wp2_with fail
    refine bodyPost_ret (res27e (b := w.heap.size + 2) (s := t) rfl rfl (D2.setAll t).1) rfl ?_
    exact ⟨rfl, below_setAll t G1 (by omega)⟩
  · have H := H4.out rfl
    have HH : Hid (∀ w, Calls Tryd.prog 40 #[snV s] w fun x w' => x = .returned (.tuple #[snV t, .int .i64 e]) ∧ Below w.heap.size w w') := H
    clear H H3 H4 H5
    go_enter Tryd.func20, Tryd.ntmps20
    go_wp2_with fail
    refine (HH.out _).mono ?_
    rintro x w1 ⟨rfl, g1⟩
    have D1 := (Bw.three w s (4, f, v)).below (by simp) g1
    have G1 : Below w.heap.size w w1 := btr (by go_grown) g1 (by first | (simp; done) | (simp; omega))
    have L1 : w.heap.size + 3 ≤ w1.heap.size := by have := g1.size; simp at this; omega
    clear g1
    have D2 := D1
    obtain ⟨⟨c0, c1, c2, c3, c4, c5, c6, c7, c8, c9, c10, c11, c12⟩, cf⟩ := D1
    go_wp2_with fail
    refine bodyPost_ret (res27e (b := w.heap.size + 2) (s := t) rfl rfl (D2.setAll t).1) rfl ?_
    exact ⟨rfl, below_setAll t G1 (by omega)⟩
  · have H := H5.out rfl
    have HH : Hid (∀ w, Calls Tryd.prog 41 #[snV s, .int .i64 f, .int .u64 v] w fun x w' => x = .returned (.tuple #[snV t, .int .i64 e]) ∧ Below w.heap.size w w') := H
    clear H H3 H4 H5
    go_enter Tryd.func20, Tryd.ntmps20
    go_wp2_with fail
    refine (HH.out _).mono ?_
    rintro x w1 ⟨rfl, g1⟩
    have D1 := (Bw.three w s (5, f, v)).below (by simp) g1
    have G1 : Below w.heap.size w w1 := btr (by go_grown) g1 (by first | (simp; done) | (simp; omega))
    have L1 : w.heap.size + 3 ≤ w1.heap.size := by have := g1.size; simp at this; omega
    clear g1
    have D2 := D1
    obtain ⟨⟨c0, c1, c2, c3, c4, c5, c6, c7, c8, c9, c10, c11, c12⟩, cf⟩ := D1
    go_wp2_with fail
    refine bodyPost_ret (res27e (b := w.heap.size + 2) (s := t) rfl rfl (D2.setAll t).1) rfl ?_
    exact ⟨rfl, below_setAll t G1 (by omega)⟩
set_option maxHeartbeats 8000000 in
theorem change_none (k f v : Int) (s : Sn) (w : World) (b3 : (k == 3) = false) (b4 : (k == 4) = false) (b5 : (k == 5) = false) :
    Calls Tryd.prog 20 #[snV s, tV (k, f, v)] w fun x w' => x = .returned (.tuple #[snV s, .int .i64 0]) ∧ Below w.heap.size w w' := by
  go_enter Tryd.func20, Tryd.ntmps20
  go_wp2
  refine bodyPost_ret (res27e (b := w.heap.size + 2) (s := s) rfl rfl (Bx.third w s (k, f, v))) rfl ?_
  exact ⟨rfl, by go_grown⟩
theorem change_any (s : Sn) (a : A) (w : World) (hw : AW a) : Calls Tryd.prog 20 #[snV s, tV a] w fun x w' => x = .returned (.tuple #[snV (chS s a), .int .i64 (chE s a)]) ∧ Below w.heap.size w w' := by
  obtain ⟨k, f, v⟩ := a
  by_cases h3 : k = 3
  · subst h3
    exact change_call 3 f v s (pushS s 0) (pushE s 0) w (.inl rfl) (show _ → _ from fun _ w => push_any s 0 w (Int.le_refl _)) (show _ → _ from fun h => absurd h (by decide)) (show _ → _ from fun h => absurd h (by decide))
  · by_cases h4 : k = 4
    · subst h4
      exact change_call 4 f v s (popS s) (popE s) w (.inr (.inl rfl)) (show _ → _ from fun h => absurd h (by decide)) (show _ → _ from fun _ w => pop_any s w) (show _ → _ from fun h => absurd h (by decide))
    · by_cases h5 : k = 5
      · subst h5
        exact change_call 5 f v s (putS s f v) (putE s f v) w (.inr (.inr rfl)) (show _ → _ from fun h => absurd h (by decide)) (show _ → _ from fun h => absurd h (by decide)) (show _ → _ from fun _ w => fput_any s f v w hw.v0)
      · have e1 : chS s (k, f, v) = s := by simp [chS, h3, h4, h5]
        have e2 : chE s (k, f, v) = 0 := by simp [chE, h3, h4, h5]
        rw [e1, e2]
        exact change_none k f v s w (by simp [h3]) (by simp [h4]) (by simp [h5])
set_option maxHeartbeats 8000000 in
theorem change_bad (s t : Sn) (a : A) (e : Int) (w : World) (he : (e != 0) = true) (HC : Hid (∀ w, Calls Tryd.prog 20 #[snV s, tV a] w fun x w' => x = .returned (.tuple #[snV t, .int .i64 e]) ∧ Below w.heap.size w w')) :
    Calls Tryd.prog 8 #[snV s, tV a] w fun x w' => x = .returned (snV s) ∧ Below w.heap.size w w' := by
  go_enter Tryd.func8, Tryd.ntmps8
  go_wp2_with fail
  refine (HC.out _).mono ?_
  rintro x w1 ⟨rfl, g1⟩
  have A0 := (Bx.three w s a).below (by simp; omega) g1
  have D0 := (Bw.three w s a).below (by simp) g1
  have G1 : Below w.heap.size w w1 := btr (by go_grown) g1 (by first | (simp; done) | (simp; omega))
  have L1 : w.heap.size + 3 ≤ w1.heap.size := by have := g1.size; simp at this; omega
  have A1 := A0.below (B := w1.heap.size) (by omega) ((Below.refl _ _).alloc (Nat.le_refl _) (.cells (snC t) 27))
  have D1 := D0.below (B := w1.heap.size) (by omega) ((Below.refl _ _).alloc (Nat.le_refl _) (.cells (snC t) 27))
  clear g1
  have D2 := D1
  obtain ⟨⟨c0, c1, c2, c3, c4, c5, c6, c7, c8, c9, c10, c11, c12⟩, cf⟩ := D0
  obtain ⟨a0, a1, a2, a3, a4, a5, a6, a7, a8, a9, a10, a11, a12⟩ := A0
  go_wp2_with fail
  refine bodyPost_ret (res27 (b := w.heap.size + 2) (s := s) rfl rfl (D2.setAll s).1) rfl ?_
  exact ⟨rfl, below_setAll s (G1.alloc G1.size _) (by omega)⟩
set_option maxHeartbeats 8000000 in
theorem change_good (s t : Sn) (a : A) (w : World) (HC : Hid (∀ w, Calls Tryd.prog 20 #[snV s, tV a] w fun x w' => x = .returned (.tuple #[snV t, .int .i64 0]) ∧ Below w.heap.size w w')) :
    Calls Tryd.prog 8 #[snV s, tV a] w fun x w' => x = .returned (snV t) ∧ Below w.heap.size w w' := by
  go_enter Tryd.func8, Tryd.ntmps8
  go_wp2_with fail
  refine (HC.out _).mono ?_
  rintro x w1 ⟨rfl, g1⟩
  have D0 := (Bw.three w s a).below (by simp) g1
  have G1 : Below w.heap.size w w1 := btr (by go_grown) g1 (by first | (simp; done) | (simp; omega))
  have L1 : w.heap.size + 3 ≤ w1.heap.size := by have := g1.size; simp at this; omega
  have D1 := D0.below (B := w1.heap.size) (by omega) ((Below.refl _ _).alloc (Nat.le_refl _) (.cells (snC t) 27))
  clear g1
  have D2 := D1
  obtain ⟨⟨c0, c1, c2, c3, c4, c5, c6, c7, c8, c9, c10, c11, c12⟩, cf⟩ := D0
  go_wp2_with fail
  refine bodyPost_ret (res27 (b := w.heap.size + 2) (s := t) rfl rfl (D2.setAll t).1) rfl ?_
  exact ⟨rfl, below_setAll t (G1.alloc G1.size _) (by omega)⟩
theorem chg_any (s : Sn) (a : A) (w : World) (hw : AW a) : Calls Tryd.prog 8 #[snV s, tV a] w fun x w' => x = .returned (snV (changeV s a)) ∧ Below w.heap.size w w' := by
  unfold changeV
  by_cases h : chE s a = 0
  · rw [if_pos h]
    exact change_good s (chS s a) a w (show ∀ w, _ from fun w => by have := change_any s a w hw; rw [h] at this; exact this)
  · rw [if_neg h]
    exact change_bad s (chS s a) a (chE s a) w (by simpa using h) (show ∀ w, _ from fun w => change_any s a w hw)
end Go.Proofs.YtmlonfchbkmbcabDoor
