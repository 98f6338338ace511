/-
  The document's Put: what it answers, as a contract.
-/
import Derived.Test.YtjjfhibkcngphaaGreatDoorPut
import Derived.Laws.AppendOwn
import Derived.Laws.OwnMore
namespace Go.Proofs.YtjjfhibkcngphaaGreatDoor
open Go.ChangeShapes Go.WideShapes Go.ChangeAt Go.RowKit
set_option linter.unusedSimpArgs false

theorem pieces_at : ∀ (k : Nat) (n : Int) (j : Nat), j < k → (pieces n k)[j]? = some (n / 2 ^ (8 * (k - 1 - j)) % 256)
  | 0, _, _, h => absurd h (Nat.not_lt_zero _)
  | k + 1, n, j, h => by
    by_cases hj : j < k
    · rw [pieces, List.getElem?_append_left (by rw [pieces_length]; exact hj), pieces_at k (n / 256) j hj]
      have e : k + 1 - 1 - j = (k - 1 - j) + 1 := by omega
      rw [e, Int.ediv_ediv_of_nonneg (by omega)]
      have e2 : 8 * (k - 1 - j + 1) = 8 + 8 * (k - 1 - j) := by omega
      rw [e2, Int.pow_add]
      rfl
    · have : j = k := by omega
      subst this
      rw [pieces, List.getElem?_append_right (by rw [pieces_length]; exact Nat.le_refl _), pieces_length]
      simp
theorem pieces_take (k : Nat) (n : Int) (j : Nat) (h : j < k) : (pieces n k).take (j + 1) = (pieces n k).take j ++ [n / 2 ^ (8 * (k - 1 - j)) % 256] := by
  rw [List.take_add_one, pieces_at k n j h]; rfl

/-- 'string(out)' of a row that is owned. -/
theorem cv_own (w : World) (base : Nat) (v : Value) (k : Nat) (xs : List Int) (hk : 1 ≤ k) (h : w.ownsRow base 5 1 v k (xs.map (Value.int .u8))) :
    ∃ g cap, v = .slice (some ⟨g, 0, none⟩) k cap ∧ (convert 111 9 (.slice (some ⟨g, 0, none⟩) k cap)).run Tryz.prog w = .ok (.string (strOfNums xs)) w := by
  have hl := h.1
  rcases h.2 with ⟨_, h'⟩ | ⟨g, cap, cur, rfl, _⟩
  · omega
  · refine ⟨g, cap, rfl, run_convert_bytes_arg w 111 5 Tryz.underlying111 Tryz.underlying5 g 0 k cap xs (by simpa using hl) (fun i hi => ?_) 9 Tryz.underlying9⟩
    rw [Nat.zero_add, h.cellAt i (by omega)]
    have hi' : i < xs.length := by simp at hl; omega
    simp [List.getElem?_eq_getElem hi']


set_option maxRecDepth 20000 in
set_option maxHeartbeats 4000000 in
theorem rput_any (n : Int) (k : Nat) (w : World) (hk1 : 1 ≤ k) (hk8 : k ≤ 8) (_ : 0 ≤ n) (h1 : n < 18446744073709551616) :
    Calls Tryz.prog 85 #[.int .u64 n, .int .i64 k] w fun e w' => e = .returned (.string (pb n k)) ∧ Below w.heap.size w w' := by
  obtain ⟨i0, hi, hz0, hz1, hz2⟩ := info_parts infoB
  have H1 : Hid (n < 18446744073709551616) := h1
  clear h1
  go_enter Tryz.func85, Tryz.ntmps85
  go_wp2
  go_loopw [5, 6] (fun v i wr => ∃ j : Nat, j ≤ k ∧ i = .int .i64 ((k : Int) - 1 - j) ∧ wr.ownsRow w.heap.size 5 1 v j (((pieces n k).take j).map (Value.int .u8)) ∧ Below w.heap.size w wr)
    (fun _ i _ => (1 + intOf i).toNat)
  case atStart => exact ⟨0, Nat.zero_le _, by simp, World.ownsRow_nil _ _ _ _, Below.refl _ _⟩
  case round =>
    obtain ⟨j, hj, rfl, hown, hbel⟩ := hrel
    by_cases hlt : j < k
    · go_wp2_with (at_builtin; refine wpList_append_own _ rfl _ _ 111 rfl (w.heap.size) 5 i0 (.int .u8 0) 1 1 Tryz.underlying111 hi hz0 hz1 hz2 rfl (by decide) _ _ _ rfl (hown.alloc _) ⟨wr.heap.size, 0, none⟩ 1 1 [.int .u8 (n / 2 ^ (8 * (k - 1 - j)) % 256)] rfl rfl ?c1 ?c2 ?c3 ?c4 ?c5 ?_)
      case c1 =>
        intro j u hj
        match j, hj with
        | 0, hj => simp at hj; subst hj; simp [Addr.add]
      case c2 => intro u hu; simp at hu; subst hu; rfl
      case c3 => unfold maxLen; omega
      case c4 => omega
      case c5 => have := hbel.size; simp; omega
      · intro v' w1 hown' hgrow _
        have R1 : w1.ownsRow w.heap.size 5 1 v' (j + 1) (((pieces n k).take (j + 1)).map (Value.int .u8)) := by
          rw [pieces_take k n j hlt]
          simpa using hown'
        have R2 : Below w.heap.size w w1 := (hbel.alloc hbel.size _).grown hgrow (by have := hbel.size; simp; omega) (fun q hq => (hown.lt q hq).1)
        clear hown' hgrow hown hbel
        go_wp2
        go_roundw
        case rel => exact ⟨j + 1, by omega, by go_num, R1, R2⟩
        case measure => simp [intOf]; omega
    · obtain rfl : j = k := by omega
      rw [List.take_of_length_le (by rw [pieces_length]; exact Nat.le_refl _)] at hown
      obtain ⟨g, cap, rfl, hcv⟩ := cv_own wr _ _ _ _ hk1 hown
      clear hown
      go_wp2
      go_ret
      exact ⟨rfl, hbel⟩
end Go.Proofs.YtjjfhibkcngphaaGreatDoor
