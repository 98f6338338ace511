/-
  What with, mayPut, Put, Push and Pop answer, as contracts.
-/
import Derived.Test.YtmlonfchbkmbcabDoorSn
namespace Go.Proofs.YtmlonfchbkmbcabDoor
open Go.ChangeShapes Go.WideShapes Go.ChangeAt Go.RowKit

/-- A packet in a switch with v in a field. -/
def withV (s : Sn) (f v : Int) : Sn := if f = 2 then { s with mt := v } else if f = 3 then { s with vl := v } else if f = 5 then { s with src := v } else if f = 6 then { s with dst := v } else if f = 8 then { s with sp := v } else if f = 9 then { s with dp := v } else s
def sn0 : Sn := ⟨0, 0, 0, 0, 0, 0, 0, 0, 0, 0, 0, 0, ⟨#[]⟩⟩
def mayB (f : Int) : Bool := f != 1 && f != 4 && f != 7

theorem wr_i (v : Int) (h0 : 0 ≤ v) (h1 : v ≤ 65535) : IntKind.i64.wrap v = v := by rw [IntKind.wrap_i64]; omega
theorem wr_u (v : Int) (h0 : 0 ≤ v) (h1 : v ≤ 4294967295) : IntKind.u32.wrap v = v := by simp [IntKind.wrap, IntKind.bits, IntKind.signed]; omega

set_option maxHeartbeats 2000000 in
theorem with_2 (s : Sn) (v : Int) (w : World) : Calls Tryd.prog 57 #[snV s, .int .i64 2, .int .u64 v] w fun e w' => e = .returned (snV { s with mt := v }) ∧ Below w.heap.size w w' := by
  go_enter Tryd.func57, Tryd.ntmps57
  go_wp2
  refine bodyPost_ret (res27 (b := w.heap.size + 1) (s := { s with mt := v }) rfl rfl (by unfold Bx; simp)) rfl ?_
  exact ⟨rfl, by go_grown⟩
set_option maxHeartbeats 2000000 in
theorem with_3 (s : Sn) (v : Int) (w : World) (h0 : 0 ≤ v) (h1 : v ≤ 8191) : Calls Tryd.prog 57 #[snV s, .int .i64 3, .int .u64 v] w fun e w' => e = .returned (snV { s with vl := v }) ∧ Below w.heap.size w w' := by
  have e := wr_i v h0 (by omega)
  clear h0 h1
  go_enter Tryd.func57, Tryd.ntmps57
  go_wp2
  refine bodyPost_ret (res27 (b := w.heap.size + 1) (s := { s with vl := v }) rfl rfl (by unfold Bx; simp)) rfl ?_
  exact ⟨rfl, by go_grown⟩
set_option maxHeartbeats 2000000 in
theorem with_5 (s : Sn) (v : Int) (w : World) (h0 : 0 ≤ v) (h1 : v ≤ 4294967295) : Calls Tryd.prog 57 #[snV s, .int .i64 5, .int .u64 v] w fun e w' => e = .returned (snV { s with src := v }) ∧ Below w.heap.size w w' := by
  have e := wr_u v h0 h1
  clear h0 h1
  go_enter Tryd.func57, Tryd.ntmps57
  go_wp2
  refine bodyPost_ret (res27 (b := w.heap.size + 1) (s := { s with src := v }) rfl rfl (by unfold Bx; simp)) rfl ?_
  exact ⟨rfl, by go_grown⟩
set_option maxHeartbeats 2000000 in
theorem with_6 (s : Sn) (v : Int) (w : World) (h0 : 0 ≤ v) (h1 : v ≤ 4294967295) : Calls Tryd.prog 57 #[snV s, .int .i64 6, .int .u64 v] w fun e w' => e = .returned (snV { s with dst := v }) ∧ Below w.heap.size w w' := by
  have e := wr_u v h0 h1
  clear h0 h1
  go_enter Tryd.func57, Tryd.ntmps57
  go_wp2
  refine bodyPost_ret (res27 (b := w.heap.size + 1) (s := { s with dst := v }) rfl rfl (by unfold Bx; simp)) rfl ?_
  exact ⟨rfl, by go_grown⟩
set_option maxHeartbeats 2000000 in
theorem with_8 (s : Sn) (v : Int) (w : World) (h0 : 0 ≤ v) (h1 : v ≤ 65535) : Calls Tryd.prog 57 #[snV s, .int .i64 8, .int .u64 v] w fun e w' => e = .returned (snV { s with sp := v }) ∧ Below w.heap.size w w' := by
  have e := wr_i v h0 h1
  clear h0 h1
  go_enter Tryd.func57, Tryd.ntmps57
  go_wp2
  refine bodyPost_ret (res27 (b := w.heap.size + 1) (s := { s with sp := v }) rfl rfl (by unfold Bx; simp)) rfl ?_
  exact ⟨rfl, by go_grown⟩
set_option maxHeartbeats 2000000 in
theorem with_9 (s : Sn) (v : Int) (w : World) (h0 : 0 ≤ v) (h1 : v ≤ 65535) : Calls Tryd.prog 57 #[snV s, .int .i64 9, .int .u64 v] w fun e w' => e = .returned (snV { s with dp := v }) ∧ Below w.heap.size w w' := by
  have e := wr_i v h0 h1
  clear h0 h1
  go_enter Tryd.func57, Tryd.ntmps57
  go_wp2
  refine bodyPost_ret (res27 (b := w.heap.size + 1) (s := { s with dp := v }) rfl rfl (by unfold Bx; simp)) rfl ?_
  exact ⟨rfl, by go_grown⟩
theorem with_any (s : Sn) (f v : Int) (w : World) (hf : f = 2 ∨ f = 3 ∨ f = 5 ∨ f = 6 ∨ f = 8 ∨ f = 9) (h0 : 0 ≤ v) (h1 : v ≤ grV f) : Calls Tryd.prog 57 #[snV s, .int .i64 f, .int .u64 v] w fun e w' => e = .returned (snV (withV s f v)) ∧ Below w.heap.size w w' := by
  rcases hf with rfl | rfl | rfl | rfl | rfl | rfl
  · exact with_2 s v w
  · exact with_3 s v w h0 h1
  · exact with_5 s v w h0 h1
  · exact with_6 s v w h0 h1
  · exact with_8 s v w h0 h1
  · exact with_9 s v w h0 h1

set_option maxHeartbeats 2000000 in
theorem mayPut_any (f : Int) (w : World) : Calls Tryd.prog 58 #[.int .i64 f] w fun e w' => e = .returned (.bool (mayB f)) ∧ w' = w := by
  unfold mayB
  by_cases h1 : f = 1
  · subst h1
    go_enter Tryd.func58, Tryd.ntmps58
    go_wp2
    go_ret
    exact ⟨rfl, rfl⟩
  · have b1 : (f != 1) = true := by simp [h1]
    clear h1
    by_cases h2 : f = 4
    · subst h2
      go_enter Tryd.func58, Tryd.ntmps58
      go_wp2
      go_ret
      exact ⟨rfl, rfl⟩
    · have b2 : (f != 4) = true := by simp [h2]
      clear h2
      rw [b1, b2]
      go_enter Tryd.func58, Tryd.ntmps58
      go_wp2
      go_ret
      exact ⟨rfl, rfl⟩

set_option maxHeartbeats 2000000 in
theorem put_a1 (s : Sn) (f v : Int) (w : World) (HM : Hid (∀ w, Calls Tryd.prog 58 #[.int .i64 f] w fun e w' => e = .returned (.bool false) ∧ w' = w)) : Calls Tryd.prog 41 #[snV s, .int .i64 f, .int .u64 v] w fun e w' => e = .returned (.tuple #[snV sn0, .int .i64 20]) ∧ Below w.heap.size w w' := by
  go_enter Tryd.func41, Tryd.ntmps41
  go_wp2_with fail
  refine (HM.out _).mono ?_
  rintro x w1 ⟨rfl, rfl⟩
  go_wp2_with fail
  refine bodyPost_ret (res27e (b := w.heap.size + 1) (s := sn0) rfl rfl (by unfold Bx sn0; simp)) rfl ?_
  exact ⟨rfl, by go_grown⟩
end Go.Proofs.YtmlonfchbkmbcabDoor
