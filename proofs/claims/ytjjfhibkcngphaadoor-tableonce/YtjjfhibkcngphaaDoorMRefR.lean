/-
  The document's Width, all, whole: what they answer, as contracts.
-/
import Derived.Test.YtjjfhibkcngphaaDoorMRightP
namespace Go.Proofs.YtjjfhibkcngphaaDoor.Mt
open Go.ChangeShapes Go.WideShapes Go.ChangeAt Go.RowKit

set_option maxHeartbeats 1000000 in
theorem rwidth_any (f : Int) (w : World) : Calls Tryd.prog 41 #[.int .i64 f] w fun e w' => e = .returned (.int .i64 (wdV f)) ∧ Below w.heap.size w w' := by
  by_cases h : f < 1 ∨ 9 < f
  · rw [wdV_none h]
    rcases h with h | h
    · go_enter Tryd.func41, Tryd.ntmps41
      go_wp2
      go_ret
      exact ⟨rfl, by go_grown⟩
    · have h1 : ¬ f < 1 := by omega
      go_enter Tryd.func41, Tryd.ntmps41
      go_wp2
      go_ret
      exact ⟨rfl, by go_grown⟩
  · rcases cls9 h with rfl | rfl | rfl | rfl | rfl | rfl | rfl | rfl | rfl
    all_goals
      clear h
      go_enter Tryd.func41, Tryd.ntmps41
      go_wp2
      go_ret
      exact ⟨rfl, by go_grown⟩
theorem wholeV_drop (l : List T) (n k : Nat) (f : Int) (hn : n ≤ l.length) (hk : k < n) :
    wholeV ((l.take n).drop k) f = if (l[k]'(by omega)).1 = f ∧ (l[k]'(by omega)).2.2 = grV f then some (l[k]'(by omega)).2.1 else wholeV ((l.take n).drop (k + 1)) f := by
  have hlen : k < (l.take n).length := by rw [List.length_take]; omega
  rw [List.drop_eq_getElem_cons hlen, List.getElem_take]
  by_cases h : (l[k]'(by omega)).1 = f ∧ (l[k]'(by omega)).2.2 = grV f
  · rw [if_pos h]
    simp [wholeV, h.1, h.2]
  · rw [if_neg h]
    have : ((l[k]'(by omega)).1 == f && (l[k]'(by omega)).2.2 == grV f) = false := by
      rw [Bool.and_eq_false_iff, beq_eq_false_iff_ne, beq_eq_false_iff_ne]
      by_cases h1 : (l[k]'(by omega)).1 = f
      · exact .inr fun h2 => h ⟨h1, h2⟩
      · exact .inl h1
    simp [wholeV, this]

end Go.Proofs.YtjjfhibkcngphaaDoor.Mt
