/-
  What Push and Pop answer, and the document's, as contracts.
-/
import Derived.Test.YtmlonfchbkmbcabDoorFPuts
namespace Go.Proofs.YtmlonfchbkmbcabDoor
open Go.ChangeShapes Go.WideShapes Go.ChangeAt Go.RowKit

def pushE (s : Sn) (n : Int) : Int := if s.vl = 0 then (if n > 4095 then 1 else 0) else 29
def pushS (s : Sn) (n : Int) : Sn := if pushE s n = 0 then { s with vl := 4096 + n } else sn0
def popE (s : Sn) : Int := if s.vl = 0 then 31 else 0
def popS (s : Sn) : Sn := if s.vl = 0 then sn0 else { s with vl := 0 }

set_option maxHeartbeats 4000000 in
theorem push_a (s : Sn) (n : Int) (w : World) (bl : (s.vl != 0) = true) : Calls Tryd.prog 39 #[snV s, .int .u64 n] w fun e w' => e = .returned (.tuple #[snV sn0, .int .i64 29]) ∧ Below w.heap.size w w' := by
  go_enter Tryd.func39, Tryd.ntmps39
  go_wp2_with fail
  refine bodyPost_ret (res27e (b := w.heap.size + 1) (s := sn0) rfl rfl (by unfold Bx sn0; simp)) rfl ?_
  exact ⟨rfl, by go_grown⟩
set_option maxHeartbeats 4000000 in
theorem push_b (s : Sn) (n : Int) (w : World) (bl : (s.vl != 0) = false) (hn : n > 4095) : Calls Tryd.prog 39 #[snV s, .int .u64 n] w fun e w' => e = .returned (.tuple #[snV sn0, .int .i64 1]) ∧ Below w.heap.size w w' := by
  go_enter Tryd.func39, Tryd.ntmps39
  go_wp2_with fail
  refine bodyPost_ret (res27e (b := w.heap.size + 1) (s := sn0) rfl rfl (by unfold Bx sn0; simp)) rfl ?_
  exact ⟨rfl, by go_grown⟩
set_option maxHeartbeats 4000000 in
theorem push_c (s t : Sn) (n : Int) (w : World) (bl : (s.vl != 0) = false) (h0 : 0 ≤ n) (hn : n ≤ 4095)
    (HW : Hid (∀ w, Calls Tryd.prog 57 #[snV s, .int .i64 3, .int .u64 (4096 + n)] w fun e w' => e = .returned (snV t) ∧ Below w.heap.size w w')) :
    Calls Tryd.prog 39 #[snV s, .int .u64 n] w fun e w' => e = .returned (.tuple #[snV t, .int .i64 0]) ∧ Below w.heap.size w w' := by
  go_enter Tryd.func39, Tryd.ntmps39
  go_wp2_with fail
  refine (HW.out _).mono ?_
  rintro x w1 ⟨rfl, g1⟩
  have D1 := (Bw.two w s).below (by simp) g1
  have G1 : Below w.heap.size w w1 := btr (by go_grown) g1 (by simp)
  clear g1
  have D2 := D1
  obtain ⟨⟨c0, c1, c2, c3, c4, c5, c6, c7, c8, c9, c10, c11, c12⟩, cf⟩ := D1
  go_wp2_with fail
  refine bodyPost_ret (res27e (b := w.heap.size + 1) (s := t) rfl rfl (D2.setAll t).1) rfl ?_
  exact ⟨rfl, below_setAll t G1 (by omega)⟩
theorem push_any (s : Sn) (n : Int) (w : World) (h0 : 0 ≤ n) : Calls Tryd.prog 39 #[snV s, .int .u64 n] w fun e w' => e = .returned (.tuple #[snV (pushS s n), .int .i64 (pushE s n)]) ∧ Below w.heap.size w w' := by
  unfold pushS
  by_cases c1 : s.vl = 0
  · have e : pushE s n = (if n > 4095 then 1 else 0) := if_pos c1
    by_cases c2 : n > 4095
    · rw [if_pos c2] at e
      rw [e, if_neg (by decide)]
      exact push_b s n w (by simp [c1]) c2
    · rw [if_neg c2] at e
      rw [e, if_pos rfl]
      exact push_c s _ n w (by simp [c1]) h0 (by omega) (fun w => with_3 s (4096 + n) w (by omega) (by omega))
  · have e : pushE s n = 29 := if_neg c1
    rw [e, if_neg (by decide)]
    exact push_a s n w (by simp [c1])

set_option maxHeartbeats 4000000 in
theorem pop_a (s : Sn) (w : World) (bl : (s.vl == 0) = true) : Calls Tryd.prog 40 #[snV s] w fun e w' => e = .returned (.tuple #[snV sn0, .int .i64 31]) ∧ Below w.heap.size w w' := by
  go_enter Tryd.func40, Tryd.ntmps40
  go_wp2_with fail
  refine bodyPost_ret (res27e (b := w.heap.size + 1) (s := sn0) rfl rfl (by unfold Bx sn0; simp)) rfl ?_
  exact ⟨rfl, by go_grown⟩
set_option maxHeartbeats 4000000 in
theorem pop_b (s t : Sn) (w : World) (bl : (s.vl == 0) = false)
    (HW : Hid (∀ w, Calls Tryd.prog 57 #[snV s, .int .i64 3, .int .u64 0] w fun e w' => e = .returned (snV t) ∧ Below w.heap.size w w')) :
    Calls Tryd.prog 40 #[snV s] w fun e w' => e = .returned (.tuple #[snV t, .int .i64 0]) ∧ Below w.heap.size w w' := by
  go_enter Tryd.func40, Tryd.ntmps40
  go_wp2_with fail
  refine (HW.out _).mono ?_
  rintro x w1 ⟨rfl, g1⟩
  have D1 := (Bw.two w s).below (by simp) g1
  have G1 : Below w.heap.size w w1 := btr (by go_grown) g1 (by simp)
  clear g1
  have D2 := D1
  obtain ⟨⟨c0, c1, c2, c3, c4, c5, c6, c7, c8, c9, c10, c11, c12⟩, cf⟩ := D1
  go_wp2_with fail
  refine bodyPost_ret (res27e (b := w.heap.size + 1) (s := t) rfl rfl (D2.setAll t).1) rfl ?_
  exact ⟨rfl, below_setAll t G1 (by omega)⟩
theorem pop_any (s : Sn) (w : World) : Calls Tryd.prog 40 #[snV s] w fun e w' => e = .returned (.tuple #[snV (popS s), .int .i64 (popE s)]) ∧ Below w.heap.size w w' := by
  unfold popS popE
  by_cases c1 : s.vl = 0
  · rw [if_pos c1, if_pos c1]
    exact pop_a s w (by simp [c1])
  · rw [if_neg c1, if_neg c1]
    exact pop_b s _ w (by simp [c1]) (fun w => with_3 s 0 w (by omega) (by omega))

end Go.Proofs.YtmlonfchbkmbcabDoor
