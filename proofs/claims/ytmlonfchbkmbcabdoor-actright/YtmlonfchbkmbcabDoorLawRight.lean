/-
  The walk of ActRight.
-/
import Derived.Test.YtmlonfchbkmbcabDoorRightM
namespace Go.Proofs.YtmlonfchbkmbcabDoor
open Go.ChangeShapes Go.WideShapes Go.ChangeAt Go.RowKit

abbrev sa (w : World) (s : Sn) (a : A) : World := (bx w s).alloc (.cells (tC a) 29)
theorem sa_s (w : World) (s : Sn) (a : A) : Bx (sa w s a) w.heap.size s := (Bx.new w s).below (B := (bx w s).heap.size) (by simp) ((Below.refl _ _).alloc (Nat.le_refl _) _)
theorem sa_a (w : World) (s : Sn) (a : A) : C3 (sa w s a) (w.heap.size + 1) 0 a := by
  have h := C3.new (bx w s) a
  rw [show (bx w s).heap.size = w.heap.size + 1 by simp] at h
  exact h
theorem sa_b (w : World) (s : Sn) (a : A) : Below w.heap.size w (sa w s a) := by go_grown
theorem sa_z (w : World) (s : Sn) (a : A) : (sa w s a).heap.size = w.heap.size + 2 := by simp
set_option maxHeartbeats 8000000 in
theorem right_long (s : Sn) (a : A) (w : World) (hd : Cd w) (hs : (1000 : Int) < s.data.size) : Calls Tryd.prog 3 #[snV s, tV a] w fun x w' => x = .returned (.bool true) ∧ Below w.heap.size w w' := by
  have HA : Hid (∀ w, Cd w → Calls Tryd.prog 6 #[] w fun e w' => e = .returned (.bool true) ∧ Below w.heap.size w w') := (show ∀ w, _ from fun w h => awake_any w h)
  have HD : Hid (Cd (sa w s a)) := (show Cd (sa w s a) from hd.below (sa_b w s a))
  clear hd
  go_enter Tryd.func3, Tryd.ntmps3
  go_wp2_with fail
  refine (HA.out _ HD.out).mono ?_
  rintro x w1 ⟨rfl, g1⟩
  go_wp2_with fail
  go_ret
  exact ⟨rfl, btr (sa_b w s a) g1 (Nat.le_refl _)⟩
set_option maxHeartbeats 8000000 in
theorem right_not (s : Sn) (a : A) (w : World) (hd : Cd w) (hs : ¬ ((1000 : Int) < s.data.size)) (hr : rightB a = false) : Calls Tryd.prog 3 #[snV s, tV a] w fun x w' => x = .returned (.bool true) ∧ Below w.heap.size w w' := by
  have HA : Hid (∀ w, Cd w → Calls Tryd.prog 6 #[] w fun e w' => e = .returned (.bool true) ∧ Below w.heap.size w w') := (show ∀ w, _ from fun w h => awake_any w h)
  have HG : Hid (∀ w, Cd w → Calls Tryd.prog 5 #[tV a] w fun e w' => e = .returned (.bool false) ∧ Below w.heap.size w w') := (show ∀ w, _ from fun w h => by
    have := right_any a w h
    rwa [hr] at this)
  have hdd := hd.below (sa_b w s a)
  have HD : Hid (Cd (sa w s a)) := hdd
  clear hd hr hdd
  go_enter Tryd.func3, Tryd.ntmps3
  go_wp2_with fail
  refine (HG.out _ HD.out).mono ?_
  rintro x w1 ⟨rfl, g1⟩
  go_wp2_with fail
  refine (HA.out _ (HD.out.below g1)).mono ?_
  rintro x w2 ⟨rfl, g2⟩
  go_wp2_with fail
  go_ret
  exact ⟨rfl, btr (btr (sa_b w s a) g1 (Nat.le_refl _)) g2 (Nat.le_refl _)⟩
set_option maxHeartbeats 16000000 in
theorem right_bad (s T : Sn) (a : A) (b1 b2 : ByteArray) (E1 E2 : Int) (hE : (E1 != 0) = true) (w : World) (hd : Cd w) (hs : ¬ ((1000 : Int) < s.data.size)) (hr : rightB a = true) (hI : (T.inp == s.inp) = true) (hT : (T.data.toList == s.data.toList) = true)
    (HC : Hid (∀ w, Calls Tryd.prog 8 #[snV s, tV a] w fun x w' => x = .returned (snV T) ∧ Below w.heap.size w w'))
    (HB1 : Hid (∀ w, Calls Tryd.prog 7 #[Fr.pkV (pkOf s)] w fun x w' => x = .returned (.tuple #[.string b1, .int .i64 E1]) ∧ Below w.heap.size w w'))
    (HB2 : Hid (∀ w, Calls Tryd.prog 7 #[Fr.pkV (pkOf T)] w fun x w' => x = .returned (.tuple #[.string b2, .int .i64 E2]) ∧ Below w.heap.size w w')) :
    Calls Tryd.prog 3 #[snV s, tV a] w fun x w' => x = .returned (.bool true) ∧ Below w.heap.size w w' := by
  have HA : Hid (∀ w, Cd w → Calls Tryd.prog 6 #[] w fun e w' => e = .returned (.bool true) ∧ Below w.heap.size w w') := (show ∀ w, _ from fun w h => awake_any w h)
  have HG : Hid (∀ w, Cd w → Calls Tryd.prog 5 #[tV a] w fun e w' => e = .returned (.bool true) ∧ Below w.heap.size w w') := (show ∀ w, _ from fun w h => by
    have := right_any a w h
    rwa [hr] at this)
  have HD : Hid (Cd w) := hd
  have hdd := hd.below (sa_b w s a)
  have HD0 : Hid (Cd (sa w s a)) := hdd
  clear hd hr hdd
  go_enter Tryd.func3, Tryd.ntmps3
  go_wp2_with fail
  refine (HG.out _ HD0.out).mono ?_
  rintro x w1 ⟨rfl, g1'⟩
  have g1 : Below (sa w s a).heap.size (sa w s a) w1 := g1'
  have l1 : w.heap.size + 2 ≤ w1.heap.size := by have := g1.size; rw [sa_z] at this; exact this
  have G1 : Below w.heap.size w w1 := btr (sa_b w s a) g1 (Nat.le_refl _)
  have s1 := (sa_s w s a).below (by rw [sa_z]; omega) g1
  have a1 := (sa_a w s a).below (by rw [sa_z]; omega) g1
  clear g1 g1'
  have s1' := s1
  obtain ⟨x0, x1, x2, x3, x4, x5, x6, x7, x8, x9, x10, x11, x12⟩ := s1'
  go_wp2_with fail
  clear x0 x1 x2 x3 x4 x5 x6 x7 x8 x9 x10 x11 x12
  refine (HB1.out _).mono ?_
  rintro x w2 ⟨rfl, g2⟩
  have G2 : Below w.heap.size w w2 := btr G1 g2 (Nat.le_refl _)
  have l2 : w.heap.size + 2 ≤ w2.heap.size := by have := g2.size; omega
  have s2 := s1.below (by omega) g2
  have a2 := a1.below (by omega) g2
  clear g2 s1 a1 G1 l1
  have s2' := s2
  obtain ⟨x0, x1, x2, x3, x4, x5, x6, x7, x8, x9, x10, x11, x12⟩ := s2'
  obtain ⟨y0, y1, y2⟩ := a2
  go_wp2_with fail
  clear x0 x1 x2 x3 x4 x5 x6 x7 x8 x9 x10 x11 x12 y0 y1 y2
  refine (HC.out _).mono ?_
  rintro x w3 ⟨rfl, g3⟩
  have G3 : Below w.heap.size w w3 := btr G2 g3 (Nat.le_refl _)
  have l3 : w.heap.size + 2 ≤ w3.heap.size := by have := g3.size; omega
  have s3 := s2.below (by omega) g3
  have gb : Below w3.heap.size w3 (bx w3 T) := by go_grown
  have s3b := s3.below (by omega) gb
  have t3 := Bx.new w3 T
  have G3b : Below w.heap.size w (bx w3 T) := btr G3 gb (by omega)
  have z3 : (bx w3 T).heap.size = w3.heap.size + 1 := by simp
  clear g3 s2 G2 l2 gb G3 s3
  go_wp2_with fail
  refine (HB2.out _).mono ?_
  rintro x w4 ⟨rfl, g4'⟩
  have g4 : Below (bx w3 T).heap.size (bx w3 T) w4 := g4'
  have G4 : Below w.heap.size w w4 := btr G3b g4 (Nat.le_refl _)
  have s4 := s3b.below (by omega) g4
  have t4 := t3.below (by omega) g4
  clear g4 g4' s3b t3 G3b z3
  obtain ⟨B, hB⟩ : ∃ B, w3.heap.size = B := ⟨_, rfl⟩
  rw [hB] at t4 l3 ⊢
  clear hB
  obtain ⟨x0, x1, x2, x3, x4, x5, x6, x7, x8, x9, x10, x11, x12⟩ := s4
  obtain ⟨y0, y1, y2, y3, y4, y5, y6, y7, y8, y9, y10, y11, y12⟩ := t4
  go_wp2_with fail
  refine (HA.out _ (HD.out.below G4)).mono ?_
  rintro x w5 ⟨rfl, g5⟩
  go_wp2_with fail
  go_ret
  exact ⟨rfl, btr G4 g5 (Nat.le_refl _)⟩
set_option maxHeartbeats 16000000 in
theorem right_ok (s T : Sn) (a : A) (b1 b2 : ByteArray)  (w : World) (hd : Cd w) (hs : ¬ ((1000 : Int) < s.data.size)) (hr : rightB a = true) (hI : (T.inp == s.inp) = true) (hT : (T.data.toList == s.data.toList) = true)
    (HC : Hid (∀ w, Calls Tryd.prog 8 #[snV s, tV a] w fun x w' => x = .returned (snV T) ∧ Below w.heap.size w w'))
    (HB1 : Hid (∀ w, Calls Tryd.prog 7 #[Fr.pkV (pkOf s)] w fun x w' => x = .returned (.tuple #[.string b1, .int .i64 0]) ∧ Below w.heap.size w w'))
    (HB2 : Hid (∀ w, Calls Tryd.prog 7 #[Fr.pkV (pkOf T)] w fun x w' => x = .returned (.tuple #[.string b2, .int .i64 0]) ∧ Below w.heap.size w w')) :
    Calls Tryd.prog 3 #[snV s, tV a] w fun x w' => x = .returned (.bool true) ∧ Below w.heap.size w w' := by
  have HA : Hid (∀ w, Cd w → Calls Tryd.prog 6 #[] w fun e w' => e = .returned (.bool true) ∧ Below w.heap.size w w') := (show ∀ w, _ from fun w h => awake_any w h)
  have HG : Hid (∀ w, Cd w → Calls Tryd.prog 5 #[tV a] w fun e w' => e = .returned (.bool true) ∧ Below w.heap.size w w') := (show ∀ w, _ from fun w h => by
    have := right_any a w h
    rwa [hr] at this)
  have HD : Hid (Cd w) := hd
  have hdd := hd.below (sa_b w s a)
  have HD0 : Hid (Cd (sa w s a)) := hdd
  clear hd hr hdd
  go_enter Tryd.func3, Tryd.ntmps3
  go_wp2_with fail
  refine (HG.out _ HD0.out).mono ?_
  rintro x w1 ⟨rfl, g1'⟩
  have g1 : Below (sa w s a).heap.size (sa w s a) w1 := g1'
  have l1 : w.heap.size + 2 ≤ w1.heap.size := by have := g1.size; rw [sa_z] at this; exact this
  have G1 : Below w.heap.size w w1 := btr (sa_b w s a) g1 (Nat.le_refl _)
  have s1 := (sa_s w s a).below (by rw [sa_z]; omega) g1
  have a1 := (sa_a w s a).below (by rw [sa_z]; omega) g1
  clear g1 g1'
  have s1' := s1
  obtain ⟨x0, x1, x2, x3, x4, x5, x6, x7, x8, x9, x10, x11, x12⟩ := s1'
  go_wp2_with fail
  clear x0 x1 x2 x3 x4 x5 x6 x7 x8 x9 x10 x11 x12
  refine (HB1.out _).mono ?_
  rintro x w2 ⟨rfl, g2⟩
  have G2 : Below w.heap.size w w2 := btr G1 g2 (Nat.le_refl _)
  have l2 : w.heap.size + 2 ≤ w2.heap.size := by have := g2.size; omega
  have s2 := s1.below (by omega) g2
  have a2 := a1.below (by omega) g2
  clear g2 s1 a1 G1 l1
  have s2' := s2
  obtain ⟨x0, x1, x2, x3, x4, x5, x6, x7, x8, x9, x10, x11, x12⟩ := s2'
  obtain ⟨y0, y1, y2⟩ := a2
  go_wp2_with fail
  clear x0 x1 x2 x3 x4 x5 x6 x7 x8 x9 x10 x11 x12 y0 y1 y2
  refine (HC.out _).mono ?_
  rintro x w3 ⟨rfl, g3⟩
  have G3 : Below w.heap.size w w3 := btr G2 g3 (Nat.le_refl _)
  have l3 : w.heap.size + 2 ≤ w3.heap.size := by have := g3.size; omega
  have s3 := s2.below (by omega) g3
  have gb : Below w3.heap.size w3 (bx w3 T) := by go_grown
  have s3b := s3.below (by omega) gb
  have t3 := Bx.new w3 T
  have G3b : Below w.heap.size w (bx w3 T) := btr G3 gb (by omega)
  have z3 : (bx w3 T).heap.size = w3.heap.size + 1 := by simp
  clear g3 s2 G2 l2 gb G3 s3
  go_wp2_with fail
  refine (HB2.out _).mono ?_
  rintro x w4 ⟨rfl, g4'⟩
  have g4 : Below (bx w3 T).heap.size (bx w3 T) w4 := g4'
  have G4 : Below w.heap.size w w4 := btr G3b g4 (Nat.le_refl _)
  have s4 := s3b.below (by omega) g4
  have t4 := t3.below (by omega) g4
  clear g4 g4' s3b t3 G3b z3
  obtain ⟨B, hB⟩ : ∃ B, w3.heap.size = B := ⟨_, rfl⟩
  rw [hB] at t4 l3 ⊢
  clear hB
  obtain ⟨x0, x1, x2, x3, x4, x5, x6, x7, x8, x9, x10, x11, x12⟩ := s4
  obtain ⟨y0, y1, y2, y3, y4, y5, y6, y7, y8, y9, y10, y11, y12⟩ := t4
  go_wp2_with fail
  refine (HA.out _ (HD.out.below G4)).mono ?_
  rintro x w5 ⟨rfl, g5⟩
  go_wp2_with fail
  go_ret
  exact ⟨rfl, btr G4 g5 (Nat.le_refl _)⟩
theorem right_walk (s : Sn) (a : A) (w : World) (hw : Wf2 s) (ha : AW a) (hd : Cd w) : Calls Tryd.prog 3 #[snV s, tV a] w fun x w' => x = .returned (.bool true) ∧ Below w.heap.size w w' := by
  by_cases hs : (1000 : Int) < s.data.size
  · exact right_long s a w hd hs
  · cases hr : rightB a
    · exact right_not s a w hd hs hr
    · obtain ⟨i1, i2⟩ := change_same s a hr
      have hI : ((changeV s a).inp == s.inp) = true := by rw [i1]; simp
      have hT : ((changeV s a).data.toList == s.data.toList) = true := by rw [i2]; simp
      have h1 : (pkOf s).data.size ≤ 1000 := by show s.data.size ≤ 1000; omega
      have h2 : (pkOf (changeV s a)).data.size ≤ 1000 := by show (changeV s a).data.size ≤ 1000; rw [i2]; omega
      have wf1 : Fr.Wf (pkOf s) := ⟨hw.to0, hw.to1, hw.fr0, hw.fr1, hw.wf.a0, hw.wf.a1, hw.wf.b0, hw.wf.b1⟩
      have B1 := fun w => Fr.bytesP_any (pkOf s) w wf1 (by omega)
      have B2 := fun w => Fr.bytesP_any (pkOf (changeV s a)) w (change_wf s a hr hw) (by omega)
      by_cases hE : Fr.bytesE (pkOf s) = 0
      · have hE2 : Fr.bytesE (pkOf (changeV s a)) = 0 := (bytes_ok _ h2).2 (right_keep s a hr ((bytes_ok _ h1).1 hE))
        rw [hE] at B1
        rw [hE2] at B2
        exact right_ok s (changeV s a) a _ _ w hd hs hr hI hT (show ∀ w, _ from fun w => chg_any s a w ha) (show ∀ w, _ from B1) (show ∀ w, _ from B2)
      · exact right_bad s (changeV s a) a _ _ _ _ (by simpa using hE) w hd hs hr hI hT (show ∀ w, _ from fun w => chg_any s a w ha) (show ∀ w, _ from B1) (show ∀ w, _ from B2)
end Go.Proofs.YtmlonfchbkmbcabDoor
