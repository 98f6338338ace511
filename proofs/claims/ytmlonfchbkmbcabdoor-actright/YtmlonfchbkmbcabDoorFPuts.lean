/-
  What Put answers, as a contract.
-/
import Derived.Test.YtmlonfchbkmbcabDoorFBlocks
namespace Go.Proofs.YtmlonfchbkmbcabDoor
open Go.ChangeShapes Go.WideShapes Go.ChangeAt Go.RowKit

set_option maxHeartbeats 4000000 in
theorem put_a2 (s : Sn) (f v : Int) (w : World) (HM : Hid (∀ w, Calls Tryd.prog 58 #[.int .i64 f] w fun e w' => e = .returned (.bool true) ∧ w' = w)) (HH : Hid (∀ w, Calls Tryd.prog 59 #[pkV s, .int .i64 f] w fun e w' => e = .returned (.bool false) ∧ Below w.heap.size w w')) : Calls Tryd.prog 41 #[snV s, .int .i64 f, .int .u64 v] w fun e w' => e = .returned (.tuple #[snV sn0, .int .i64 20]) ∧ Below w.heap.size w w' := by
  go_enter Tryd.func41, Tryd.ntmps41
  go_wp2_with fail
  refine (HM.out _).mono ?_
  rintro x w1 ⟨rfl, rfl⟩
  go_wp2_with fail
  refine (HH.out _).mono ?_
  rintro x w1 ⟨rfl, g1⟩
  have A1 := (Bx.two w s).below (by simp <;> omega) g1
  have B1 := (Bw.two w s).below (by simp) g1
  have G1 : Below w.heap.size w w1 := btr (by go_grown) g1 (by simp)
  have L1 : w.heap.size + 2 ≤ w1.heap.size := by have := g1.size; simp at this; omega
  clear g1
  have D1 := B1
  obtain ⟨⟨c0, c1, c2, c3, c4, c5, c6, c7, c8, c9, c10, c11, c12⟩, cf⟩ := B1
  obtain ⟨a0, a1, a2, a3, a4, a5, a6, a7, a8, a9, a10, a11, a12⟩ := A1
  go_wp2_with fail
  refine bodyPost_ret (res27e (b := w.heap.size + 1) (s := sn0) rfl rfl (D1.setAll sn0).1) rfl ?_
  exact ⟨rfl, below_setAll sn0 G1 (by omega)⟩

set_option maxHeartbeats 4000000 in
theorem put_b1 (s : Sn) (f v : Int) (w : World) (HM : Hid (∀ w, Calls Tryd.prog 58 #[.int .i64 f] w fun e w' => e = .returned (.bool true) ∧ w' = w)) (HH : Hid (∀ w, Calls Tryd.prog 59 #[pkV s, .int .i64 f] w fun e w' => e = .returned (.bool true) ∧ Below w.heap.size w w')) (g : Int) (HG : Hid (∀ w, Calls Tryd.prog 60 #[.int .i64 f] w fun e w' => e = .returned (.int .u64 g) ∧ w' = w)) (hv : v > g) : Calls Tryd.prog 41 #[snV s, .int .i64 f, .int .u64 v] w fun e w' => e = .returned (.tuple #[snV sn0, .int .i64 1]) ∧ Below w.heap.size w w' := by
  go_enter Tryd.func41, Tryd.ntmps41
  go_wp2_with fail
  refine (HM.out _).mono ?_
  rintro x w1 ⟨rfl, rfl⟩
  go_wp2_with fail
  refine (HH.out _).mono ?_
  rintro x w1 ⟨rfl, g1⟩
  have A1 := (Bx.two w s).below (by simp <;> omega) g1
  have B1 := (Bw.two w s).below (by simp) g1
  have G1 : Below w.heap.size w w1 := btr (by go_grown) g1 (by simp)
  have L1 : w.heap.size + 2 ≤ w1.heap.size := by have := g1.size; simp at this; omega
  clear g1
  have D1 := B1
  obtain ⟨⟨c0, c1, c2, c3, c4, c5, c6, c7, c8, c9, c10, c11, c12⟩, cf⟩ := B1
  obtain ⟨a0, a1, a2, a3, a4, a5, a6, a7, a8, a9, a10, a11, a12⟩ := A1
  go_wp2_with fail
  refine (HG.out _).mono ?_
  rintro x w2 ⟨rfl, rfl⟩
  go_wp2_with fail
  refine bodyPost_ret (res27e (b := w.heap.size + 1) (s := sn0) rfl rfl (D1.setAll sn0).1) rfl ?_
  exact ⟨rfl, below_setAll sn0 G1 (by omega)⟩

set_option maxHeartbeats 4000000 in
theorem put_b2 (s : Sn) (f v : Int) (w : World) (HM : Hid (∀ w, Calls Tryd.prog 58 #[.int .i64 f] w fun e w' => e = .returned (.bool true) ∧ w' = w)) (HH : Hid (∀ w, Calls Tryd.prog 59 #[pkV s, .int .i64 f] w fun e w' => e = .returned (.bool true) ∧ Below w.heap.size w w')) (g : Int) (HG : Hid (∀ w, Calls Tryd.prog 60 #[.int .i64 f] w fun e w' => e = .returned (.int .u64 g) ∧ w' = w)) (hv : v ≤ g) (b3 : (f == 3) = true) (h4 : v < 4096) : Calls Tryd.prog 41 #[snV s, .int .i64 f, .int .u64 v] w fun e w' => e = .returned (.tuple #[snV sn0, .int .i64 1]) ∧ Below w.heap.size w w' := by
  go_enter Tryd.func41, Tryd.ntmps41
  go_wp2_with fail
  refine (HM.out _).mono ?_
  rintro x w1 ⟨rfl, rfl⟩
  go_wp2_with fail
  refine (HH.out _).mono ?_
  rintro x w1 ⟨rfl, g1⟩
  have A1 := (Bx.two w s).below (by simp <;> omega) g1
  have B1 := (Bw.two w s).below (by simp) g1
  have G1 : Below w.heap.size w w1 := btr (by go_grown) g1 (by simp)
  have L1 : w.heap.size + 2 ≤ w1.heap.size := by have := g1.size; simp at this; omega
  clear g1
  have D1 := B1
  obtain ⟨⟨c0, c1, c2, c3, c4, c5, c6, c7, c8, c9, c10, c11, c12⟩, cf⟩ := B1
  obtain ⟨a0, a1, a2, a3, a4, a5, a6, a7, a8, a9, a10, a11, a12⟩ := A1
  go_wp2_with fail
  refine (HG.out _).mono ?_
  rintro x w2 ⟨rfl, rfl⟩
  go_wp2_with fail
  refine bodyPost_ret (res27e (b := w.heap.size + 1) (s := sn0) rfl rfl (D1.setAll sn0).1) rfl ?_
  exact ⟨rfl, below_setAll sn0 G1 (by omega)⟩

set_option maxHeartbeats 4000000 in
theorem put_c (s : Sn) (f v : Int) (w : World) (HM : Hid (∀ w, Calls Tryd.prog 58 #[.int .i64 f] w fun e w' => e = .returned (.bool true) ∧ w' = w)) (HH : Hid (∀ w, Calls Tryd.prog 59 #[pkV s, .int .i64 f] w fun e w' => e = .returned (.bool true) ∧ Below w.heap.size w w')) (g : Int) (HG : Hid (∀ w, Calls Tryd.prog 60 #[.int .i64 f] w fun e w' => e = .returned (.int .u64 g) ∧ w' = w)) (hv : v ≤ g) (b3 : (f == 3) = true) (h4 : 4096 ≤ v) (bl : (s.vl == 0) = true) : Calls Tryd.prog 41 #[snV s, .int .i64 f, .int .u64 v] w fun e w' => e = .returned (.tuple #[snV sn0, .int .i64 31]) ∧ Below w.heap.size w w' := by
  go_enter Tryd.func41, Tryd.ntmps41
  go_wp2_with fail
  refine (HM.out _).mono ?_
  rintro x w1 ⟨rfl, rfl⟩
  go_wp2_with fail
  refine (HH.out _).mono ?_
  rintro x w1 ⟨rfl, g1⟩
  have A1 := (Bx.two w s).below (by simp <;> omega) g1
  have B1 := (Bw.two w s).below (by simp) g1
  have G1 : Below w.heap.size w w1 := btr (by go_grown) g1 (by simp)
  have L1 : w.heap.size + 2 ≤ w1.heap.size := by have := g1.size; simp at this; omega
  clear g1
  have D1 := B1
  obtain ⟨⟨c0, c1, c2, c3, c4, c5, c6, c7, c8, c9, c10, c11, c12⟩, cf⟩ := B1
  obtain ⟨a0, a1, a2, a3, a4, a5, a6, a7, a8, a9, a10, a11, a12⟩ := A1
  go_wp2_with fail
  refine (HG.out _).mono ?_
  rintro x w2 ⟨rfl, rfl⟩
  go_wp2_with fail
  refine bodyPost_ret (res27e (b := w.heap.size + 1) (s := sn0) rfl rfl (D1.setAll sn0).1) rfl ?_
  exact ⟨rfl, below_setAll sn0 G1 (by omega)⟩

set_option maxHeartbeats 4000000 in
theorem put_d1 (s : Sn) (f v : Int) (w : World) (HM : Hid (∀ w, Calls Tryd.prog 58 #[.int .i64 f] w fun e w' => e = .returned (.bool true) ∧ w' = w)) (HH : Hid (∀ w, Calls Tryd.prog 59 #[pkV s, .int .i64 f] w fun e w' => e = .returned (.bool true) ∧ Below w.heap.size w w')) (g : Int) (HG : Hid (∀ w, Calls Tryd.prog 60 #[.int .i64 f] w fun e w' => e = .returned (.int .u64 g) ∧ w' = w)) (hv : v ≤ g) (b3 : (f == 3) = true) (h4 : 4096 ≤ v) (bl : (s.vl == 0) = false) (t : Sn) (HW : Hid (∀ w, Calls Tryd.prog 57 #[snV s, .int .i64 f, .int .u64 v] w fun e w' => e = .returned (snV t) ∧ Below w.heap.size w w')) : Calls Tryd.prog 41 #[snV s, .int .i64 f, .int .u64 v] w fun e w' => e = .returned (.tuple #[snV t, .int .i64 0]) ∧ Below w.heap.size w w' := by
  go_enter Tryd.func41, Tryd.ntmps41
  go_wp2_with fail
  refine (HM.out _).mono ?_
  rintro x w1 ⟨rfl, rfl⟩
  go_wp2_with fail
  refine (HH.out _).mono ?_
  rintro x w1 ⟨rfl, g1⟩
  have A1 := (Bx.two w s).below (by simp <;> omega) g1
  have B1 := (Bw.two w s).below (by simp) g1
  have G1 : Below w.heap.size w w1 := btr (by go_grown) g1 (by simp)
  have L1 : w.heap.size + 2 ≤ w1.heap.size := by have := g1.size; simp at this; omega
  clear g1
  have D1 := B1
  obtain ⟨⟨c0, c1, c2, c3, c4, c5, c6, c7, c8, c9, c10, c11, c12⟩, cf⟩ := B1
  obtain ⟨a0, a1, a2, a3, a4, a5, a6, a7, a8, a9, a10, a11, a12⟩ := A1
  go_wp2_with fail
  refine (HG.out _).mono ?_
  rintro x w2 ⟨rfl, rfl⟩
  go_wp2_with fail
  refine (HW.out _).mono ?_
  rintro x w3 ⟨rfl, g3⟩
  have D3 := D1.below (by omega) g3
  have G3 : Below w.heap.size w w3 := btr G1 g3 (Nat.le_refl _)
  clear g3 c0 c1 c2 c3 c4 c5 c6 c7 c8 c9 c10 c11 c12 cf D1 G1
  have D4 := D3
  obtain ⟨⟨c0, c1, c2, c3, c4, c5, c6, c7, c8, c9, c10, c11, c12⟩, cf⟩ := D3
  go_wp2_with fail
  refine bodyPost_ret (res27e (b := w.heap.size + 1) (s := t) rfl rfl (D4.setAll t).1) rfl ?_
  exact ⟨rfl, below_setAll t G3 (by omega)⟩

set_option maxHeartbeats 4000000 in
theorem put_d2 (s : Sn) (f v : Int) (w : World) (HM : Hid (∀ w, Calls Tryd.prog 58 #[.int .i64 f] w fun e w' => e = .returned (.bool true) ∧ w' = w)) (HH : Hid (∀ w, Calls Tryd.prog 59 #[pkV s, .int .i64 f] w fun e w' => e = .returned (.bool true) ∧ Below w.heap.size w w')) (g : Int) (HG : Hid (∀ w, Calls Tryd.prog 60 #[.int .i64 f] w fun e w' => e = .returned (.int .u64 g) ∧ w' = w)) (hv : v ≤ g) (b3 : (f == 3) = false) (t : Sn) (HW : Hid (∀ w, Calls Tryd.prog 57 #[snV s, .int .i64 f, .int .u64 v] w fun e w' => e = .returned (snV t) ∧ Below w.heap.size w w')) : Calls Tryd.prog 41 #[snV s, .int .i64 f, .int .u64 v] w fun e w' => e = .returned (.tuple #[snV t, .int .i64 0]) ∧ Below w.heap.size w w' := by
  go_enter Tryd.func41, Tryd.ntmps41
  go_wp2_with fail
  refine (HM.out _).mono ?_
  rintro x w1 ⟨rfl, rfl⟩
  go_wp2_with fail
  refine (HH.out _).mono ?_
  rintro x w1 ⟨rfl, g1⟩
  have A1 := (Bx.two w s).below (by simp <;> omega) g1
  have B1 := (Bw.two w s).below (by simp) g1
  have G1 : Below w.heap.size w w1 := btr (by go_grown) g1 (by simp)
  have L1 : w.heap.size + 2 ≤ w1.heap.size := by have := g1.size; simp at this; omega
  clear g1
  have D1 := B1
  obtain ⟨⟨c0, c1, c2, c3, c4, c5, c6, c7, c8, c9, c10, c11, c12⟩, cf⟩ := B1
  obtain ⟨a0, a1, a2, a3, a4, a5, a6, a7, a8, a9, a10, a11, a12⟩ := A1
  go_wp2_with fail
  refine (HG.out _).mono ?_
  rintro x w2 ⟨rfl, rfl⟩
  go_wp2_with fail
  refine (HW.out _).mono ?_
  rintro x w3 ⟨rfl, g3⟩
  have D3 := D1.below (by omega) g3
  have G3 : Below w.heap.size w w3 := btr G1 g3 (Nat.le_refl _)
  clear g3 c0 c1 c2 c3 c4 c5 c6 c7 c8 c9 c10 c11 c12 cf D1 G1
  have D4 := D3
  obtain ⟨⟨c0, c1, c2, c3, c4, c5, c6, c7, c8, c9, c10, c11, c12⟩, cf⟩ := D3
  go_wp2_with fail
  refine bodyPost_ret (res27e (b := w.heap.size + 1) (s := t) rfl rfl (D4.setAll t).1) rfl ?_
  exact ⟨rfl, below_setAll t G3 (by omega)⟩

/-- What Put answers. -/
def putE (s : Sn) (f v : Int) : Int := if mayB f = true ∧ hasB s f = true then (if v > grV f ∨ (f = 3 ∧ v < 4096) then 1 else if f = 3 ∧ s.vl = 0 then 31 else 0) else 20
def putS (s : Sn) (f v : Int) : Sn := if putE s f v = 0 then withV s f v else sn0
theorem may_six {f : Int} (h : mayB f = true) (hf : ¬ (f < 1 ∨ 9 < f)) : f = 2 ∨ f = 3 ∨ f = 5 ∨ f = 6 ∨ f = 8 ∨ f = 9 := by
  simp [mayB] at h; omega
theorem fput_any (s : Sn) (f v : Int) (w : World) (h0 : 0 ≤ v) : Calls Tryd.prog 41 #[snV s, .int .i64 f, .int .u64 v] w fun e w' => e = .returned (.tuple #[snV (putS s f v), .int .i64 (putE s f v)]) ∧ Below w.heap.size w w' := by
  have hm := mayPut_any f
  have hh := has_any s f
  have hg := fgreatest_any f
  unfold putS
  by_cases c1 : mayB f = true
  · rw [c1] at hm
    by_cases c2 : hasB s f = true
    · rw [c2] at hh
      have e : putE s f v = (if v > grV f ∨ (f = 3 ∧ v < 4096) then 1 else if f = 3 ∧ s.vl = 0 then 31 else 0) := if_pos ⟨c1, c2⟩
      by_cases c3 : v > grV f
      · rw [if_pos (Or.inl c3)] at e
        rw [e, if_neg (by decide)]
        exact put_b1 s f v w hm hh _ hg c3
      · by_cases c4 : f = 3
        · have b3 : (f == 3) = true := by simp [c4]
          by_cases c5 : v < 4096
          · rw [if_pos (Or.inr ⟨c4, c5⟩)] at e
            rw [e, if_neg (by decide)]
            exact put_b2 s f v w hm hh _ hg (by omega) b3 c5
          · rw [if_neg (by omega)] at e
            by_cases c6 : s.vl = 0
            · rw [if_pos ⟨c4, c6⟩] at e
              rw [e, if_neg (by decide)]
              exact put_c s f v w hm hh _ hg (by omega) b3 (by omega) (by simp [c6])
            · rw [if_neg (fun x => c6 x.2)] at e
              rw [e, if_pos rfl]
              exact put_d1 s f v w hm hh _ hg (by omega) b3 (by omega) (by simp [c6]) _ (fun w => with_any s f v w (may_six c1 (has_field c2)) h0 (by omega))
        · rw [if_neg (by omega), if_neg (fun x => c4 x.1)] at e
          rw [e, if_pos rfl]
          exact put_d2 s f v w hm hh _ hg (by omega) (by simp [c4]) _ (fun w => with_any s f v w (may_six c1 (has_field c2)) h0 (by omega))
    · have e : putE s f v = 20 := if_neg (fun x => c2 x.2)
      rw [e, if_neg (by decide)]
      rw [Bool.eq_false_iff.mpr c2] at hh
      exact put_a2 s f v w hm hh
  · have e : putE s f v = 20 := if_neg (fun x => c1 x.1)
    rw [e, if_neg (by decide)]
    rw [Bool.eq_false_iff.mpr c1] at hm
    exact put_a1 s f v w hm
end Go.Proofs.YtmlonfchbkmbcabDoor
