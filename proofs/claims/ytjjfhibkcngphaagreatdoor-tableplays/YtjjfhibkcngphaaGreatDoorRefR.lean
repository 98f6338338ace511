/-
  The document's Right: what it answers, as a contract.
-/
import Derived.Test.YtjjfhibkcngphaaGreatDoorTab
namespace Go.Proofs.YtjjfhibkcngphaaGreatDoor
open Go.ChangeShapes Go.WideShapes Go.ChangeAt Go.RowKit

theorem r5_3 (v : Int) : rightB (5, 3, v) = (decide (4096 ≤ v) && decide (v ≤ 8191)) := by simp [rightB, codeV, leastV, grV]
theorem r5_5 (v : Int) (h : 0 ≤ v) : rightB (5, 5, v) = decide (v ≤ 4294967295) := by simp [rightB, codeV, leastV, grV, h]
theorem r5_6 (v : Int) (h : 0 ≤ v) : rightB (5, 6, v) = decide (v ≤ 4294967295) := by simp [rightB, codeV, leastV, grV, h]
theorem r5_8 (v : Int) (h : 0 ≤ v) : rightB (5, 8, v) = decide (v ≤ 65535) := by simp [rightB, codeV, leastV, grV, h]
theorem r5_9 (v : Int) (h : 0 ≤ v) : rightB (5, 9, v) = decide (v ≤ 65535) := by simp [rightB, codeV, leastV, grV, h]
theorem r5_n (f v : Int) (h : codeV f = 0) : rightB (5, f, v) = false := by simp [rightB, h]
set_option maxHeartbeats 4000000 in
theorem rright_five (f v : Int) (w : World) (hv : 0 ≤ v) : Calls Tryz.prog 76 #[tV (5, f, v)] w fun e w' => e = .returned (.bool (rightB (5, f, v))) ∧ Below w.heap.size w w' := by
  rcases code_cases f with rfl | rfl | rfl | rfl | rfl | ⟨b1, b2, b3, b4, b5, hc⟩
  · rw [r5_3]
    cases d1 : decide (4096 ≤ v)
    · go_enter Tryz.func76, Tryz.ntmps76
      go_wp2
      go_ret
      exact ⟨rfl, by go_grown⟩
    · cases d2 : decide (v ≤ 8191) <;>
      · go_enter Tryz.func76, Tryz.ntmps76
        go_wp2
        go_ret
        exact ⟨rfl, by go_grown⟩
  · rw [r5_5 v hv]
    cases d2 : decide (v ≤ 4294967295) <;>
    · go_enter Tryz.func76, Tryz.ntmps76
      go_wp2
      go_ret
      exact ⟨rfl, by go_grown⟩
  · rw [r5_6 v hv]
    cases d2 : decide (v ≤ 4294967295) <;>
    · go_enter Tryz.func76, Tryz.ntmps76
      go_wp2
      go_ret
      exact ⟨rfl, by go_grown⟩
  · rw [r5_8 v hv]
    cases d2 : decide (v ≤ 65535) <;>
    · go_enter Tryz.func76, Tryz.ntmps76
      go_wp2
      go_ret
      exact ⟨rfl, by go_grown⟩
  · rw [r5_9 v hv]
    cases d2 : decide (v ≤ 65535) <;>
    · go_enter Tryz.func76, Tryz.ntmps76
      go_wp2
      go_ret
      exact ⟨rfl, by go_grown⟩
  · rw [r5_n f v hc]
    have d1 : (f == 3) = false := by simp at b1 ⊢; omega
    have d2 : (f == 5) = false := by simp at b2 ⊢; omega
    have d3 : (f == 6) = false := by simp at b3 ⊢; omega
    have d4 : (f == 8) = false := by simp at b4 ⊢; omega
    have d5 : (f == 9) = false := by simp at b5 ⊢; omega
    clear b1 b2 b3 b4 b5 hc
    go_enter Tryz.func76, Tryz.ntmps76
    go_wp2
    go_ret
    exact ⟨rfl, by go_grown⟩
set_option maxHeartbeats 4000000 in
theorem rright_any (a : A) (w : World) (hw : AW a) : Calls Tryz.prog 76 #[tV a] w fun e w' => e = .returned (.bool (rightB a)) ∧ Below w.heap.size w w' := by
  have hv := hw.v0
  obtain ⟨k, f, v⟩ := a
  clear hw
  rcases kind_cases k with rfl | rfl | rfl | rfl | rfl | ⟨b1, b2, b3, b4, b5⟩
  · have hR : rightB (1, f, v) = (f == 0 && (decide (1 ≤ v) && decide (v ≤ 4294967295))) := by simp [rightB]
    rw [hR]
    clear hR hv
    cases hf : (f == 0)
    · go_enter Tryz.func76, Tryz.ntmps76
      go_wp2
      go_ret
      exact ⟨rfl, by go_grown⟩
    · cases d1 : decide (1 ≤ v)
      · go_enter Tryz.func76, Tryz.ntmps76
        go_wp2
        go_ret
        exact ⟨rfl, by go_grown⟩
      · cases d2 : decide (v ≤ 4294967295) <;>
        · go_enter Tryz.func76, Tryz.ntmps76
          go_wp2
          go_ret
          exact ⟨rfl, by go_grown⟩
  · have hR : rightB (2, f, v) = (f == 0 && (decide (1 ≤ v) && decide (v ≤ 4294967295))) := by simp [rightB]
    rw [hR]
    clear hR hv
    cases hf : (f == 0)
    · go_enter Tryz.func76, Tryz.ntmps76
      go_wp2
      go_ret
      exact ⟨rfl, by go_grown⟩
    · cases d1 : decide (1 ≤ v)
      · go_enter Tryz.func76, Tryz.ntmps76
        go_wp2
        go_ret
        exact ⟨rfl, by go_grown⟩
      · cases d2 : decide (v ≤ 4294967295) <;>
        · go_enter Tryz.func76, Tryz.ntmps76
          go_wp2
          go_ret
          exact ⟨rfl, by go_grown⟩
  · have hR : rightB (3, f, v) = (f == 0 && v == 0) := by simp [rightB]
    rw [hR]
    clear hR hv
    cases hf : (f == 0) <;> cases hv : (v == 0) <;>
    · go_enter Tryz.func76, Tryz.ntmps76
      go_wp2
      go_ret
      exact ⟨rfl, by go_grown⟩
  · have hR : rightB (4, f, v) = (f == 0 && v == 0) := by simp [rightB]
    rw [hR]
    clear hR hv
    cases hf : (f == 0) <;> cases hv : (v == 0) <;>
    · go_enter Tryz.func76, Tryz.ntmps76
      go_wp2
      go_ret
      exact ⟨rfl, by go_grown⟩
  · exact rright_five f v w hv
  · have hR : rightB (k, f, v) = false := by
      simp at b1 b2 b3 b4 b5
      simp [rightB, b1, b2, b3, b4, b5]
    rw [hR]
    clear hR hv
    go_enter Tryz.func76, Tryz.ntmps76
    go_wp2
    go_ret
    exact ⟨rfl, by go_grown⟩
end Go.Proofs.YtjjfhibkcngphaaGreatDoor
