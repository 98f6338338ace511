/-
  What the document's own 'Put' (droverref01) answers: the same bytes, or ErrArg; and the law NumsPuts's walk.
-/
import Derived.Test.YthhnnldmihcmmaaNum
namespace Go.Proofs.Ythhnnldmihcmmaa
open Go.ChangeShapes Go.WideShapes Go.ChangeAt Go.RowKit

theorem pieces_at : ∀ (k : Nat) (n : Int) (j : Nat), j < k → (pieces n k)[j]? = some (n / 2 ^ (8 * (k - 1 - j)) % 256)
  | 0, _, _, h => absurd h (Nat.not_lt_zero _)
  | k + 1, n, j, h => by
    by_cases hj : j < k
    · rw [pieces, List.getElem?_append_left (by rw [pieces_length]; exact hj), pieces_at k (n / 256) j hj]
      have e : k + 1 - 1 - j = (k - 1 - j) + 1 := by omega
      rw [e, Int.ediv_ediv_of_nonneg (by omega)]
      have e2 : 8 * (k - 1 - j + 1) = 8 + 8 * (k - 1 - j) := by omega
      rw [e2, Int.pow_add]
      rfl
    · have : j = k := by omega
      subst this
      rw [pieces, List.getElem?_append_right (by rw [pieces_length]; exact Nat.le_refl _), pieces_length]
      simp
theorem pieces_take (k : Nat) (n : Int) (j : Nat) (h : j < k) : (pieces n k).take (j + 1) = (pieces n k).take j ++ [n / 2 ^ (8 * (k - 1 - j)) % 256] := by
  rw [List.take_add_one, pieces_at k n j h]; rfl

/-- 'string(out)' of a row that is owned. -/
theorem cv_own (w : World) (base : Nat) (v : Value) (k : Nat) (xs : List Int) (hk : 1 ≤ k) (h : w.ownsRow base 5 1 v k (xs.map (Value.int .u8))) :
    ∃ g cap, v = .slice (some ⟨g, 0, none⟩) k cap ∧ (convert 44 9 (.slice (some ⟨g, 0, none⟩) k cap)).run Try.prog w = .ok (.string (strOfNums xs)) w := by
  have hl := h.1
  rcases h.2 with ⟨_, h'⟩ | ⟨g, cap, cur, rfl, _⟩
  · omega
  · refine ⟨g, cap, rfl, run_convert_bytes_arg w 44 5 Try.underlying44 Try.underlying5 g 0 k cap xs (by simpa using hl) (fun i hi => ?_) 9 Try.underlying9⟩
    rw [Nat.zero_add, h.cellAt i (by omega)]
    have hi' : i < xs.length := by simp at hl; omega
    simp [List.getElem?_eq_getElem hi']

def putR (n : Int) (k : Nat) : Value := if n < 256 ^ k then .tuple #[.string (strOfNums (pieces n k)), .int .i64 0] else .tuple #[.string ⟨#[]⟩, .int .i64 1]
theorem pow_eight (k : Nat) : (2 : Int) ^ (8 * k) = 256 ^ k := by rw [Int.pow_mul]; rfl
theorem putR_no (n : Int) (k : Nat) (h : 0 < n / 2 ^ (8 * k)) : putR n k = .tuple #[.string ⟨#[]⟩, .int .i64 1] := by
  rw [pow_eight] at h
  have hp : (0 : Int) < 256 ^ k := Int.pow_pos (by decide)
  have : ¬ n < 256 ^ k := fun hl => by
    have := Int.ediv_lt_of_lt_mul hp (show n < 1 * 256 ^ k by omega)
    omega
  rw [putR, if_neg this]
theorem putR_yes (n : Int) (k : Nat) (h : n / 2 ^ (8 * k) ≤ 0) : putR n k = .tuple #[.string (strOfNums (pieces n k)), .int .i64 0] := by
  rw [pow_eight] at h
  have hp : (0 : Int) < 256 ^ k := Int.pow_pos (by decide)
  have : n < 256 ^ k := by
    have := Int.lt_mul_of_ediv_lt hp (show n / 256 ^ k < 1 by omega)
    omega
  rw [putR, if_pos this]
theorem putR_all (n : Int) (k : Nat) (hk : 8 ≤ k) (hk8 : k ≤ 8) (h : n < 18446744073709551616) : putR n k = .tuple #[.string (strOfNums (pieces n k)), .int .i64 0] := by
  obtain rfl : k = 8 := by omega
  rw [putR, if_pos (show n < 256 ^ 8 from h)]

set_option maxHeartbeats 1000000 in
theorem ref_any (n : Int) (k : Nat) (w : World) (hk1 : 1 ≤ k) (hk8 : k ≤ 8) (_ : 0 ≤ n) (h1 : n < 18446744073709551616) :
    Calls Try.prog 9 #[.int .u64 n, .int .i64 k] w fun e w' => e = .returned (putR n k) ∧ Below w.heap.size w w' := by
  obtain ⟨i0, hi, hz0, hz1, hz2⟩ := info_parts Try.info5
  have H1 : Hid (n < 18446744073709551616) := h1
  clear h1
  go_enter Try.func9, Try.ntmps9
  go_wp2
  go_loopw [6, 7] (fun v i wr => ∃ j : Nat, j ≤ k ∧ i = .int .i64 ((k : Int) - 1 - j) ∧ wr.ownsRow w.heap.size 5 1 v j (((pieces n k).take j).map (Value.int .u8)) ∧ Below w.heap.size w wr)
    (fun _ i _ => (1 + intOf i).toNat)
  case atStart => exact ⟨0, Nat.zero_le _, by simp, World.ownsRow_nil _ _ _ _, Below.refl _ _⟩
  case round =>
    obtain ⟨j, hj, rfl, hown, hbel⟩ := hrel
    by_cases hlt : j < k
    · go_wp2_with (at_builtin; refine wpList_append_own _ rfl _ _ 44 rfl (w.heap.size) 5 i0 (.int .u8 0) 1 1 Try.underlying44 hi hz0 hz1 hz2 rfl (by decide) _ _ _ rfl (hown.alloc _) ⟨wr.heap.size, 0, none⟩ 1 1 [.int .u8 (n / 2 ^ (8 * (k - 1 - j)) % 256)] rfl rfl ?c1 ?c2 ?c3 ?c4 ?c5 ?_)
      case c1 =>
        intro j u hj
        match j, hj with
        | 0, hj => simp at hj; subst hj; simp [Addr.add]
      case c2 => intro u hu; simp at hu; subst hu; rfl
      case c3 => unfold maxLen; omega
      case c4 => omega
      case c5 => have := hbel.size; simp; omega
      · intro v' w1 hown' hgrow _
        have R1 : w1.ownsRow w.heap.size 5 1 v' (j + 1) (((pieces n k).take (j + 1)).map (Value.int .u8)) := by
          rw [pieces_take k n j hlt]
          simpa using hown'
        have R2 : Below w.heap.size w w1 := (hbel.alloc hbel.size _).grown hgrow (by have := hbel.size; simp; omega) (fun q hq => (hown.lt q hq).1)
        clear hown' hgrow hown hbel
        go_wp2
        go_roundw
        case rel => exact ⟨j + 1, by omega, by go_num, R1, R2⟩
        case measure => simp [intOf]; omega
    · obtain rfl : j = k := by omega
      rw [List.take_of_length_le (by rw [pieces_length]; exact Nat.le_refl _)] at hown
      obtain ⟨g, cap, rfl, hcv⟩ := cv_own wr _ _ _ _ hk1 hown
      clear hown
      go_wp2
      · go_ret2
        exact ⟨(congrArg Ending.returned (putR_no n j (by assumption))).symm, hbel⟩
      · go_ret2
        exact ⟨(congrArg Ending.returned (putR_yes n j (by assumption))).symm, hbel⟩
      · go_ret2
        exact ⟨(congrArg Ending.returned (putR_all n j (by omega) hk8 H1.out)).symm, hbel⟩

set_option maxHeartbeats 400000 in
theorem ref_size (n z : Int) (w : World) (hz : z < 1 ∨ 8 < z) :
    Calls Try.prog 9 #[.int .u64 n, .int .i64 z] w fun e w' => e = .returned (.tuple #[.string ⟨#[]⟩, .int .i64 1]) ∧ Below w.heap.size w w' := by
  by_cases h : z < 1
  · clear hz
    go_enter Try.func9, Try.ntmps9
    go_wp2
    go_ret2
    exact ⟨rfl, Below.refl _ _⟩
  · have h8 : 8 < z := by omega
    clear hz
    go_enter Try.func9, Try.ntmps9
    go_wp2
    go_ret2
    exact ⟨rfl, Below.refl _ _⟩

set_option maxHeartbeats 400000 in
theorem puts_of (n z : Int) (s : ByteArray) (e : Int) (w : World)
    (h8 : ∀ w : World, Calls Try.prog 8 #[.int .u64 n, .int .i64 z] w fun x w' => x = .returned (.tuple #[.string s, .int .i64 e]) ∧ Below w.heap.size w w')
    (h9 : ∀ w : World, Calls Try.prog 9 #[.int .u64 n, .int .i64 z] w fun x w' => x = .returned (.tuple #[.string s, .int .i64 e]) ∧ Below w.heap.size w w') :
    Calls Try.prog 3 #[.int .u64 n, .int .i64 z] w fun x w' => x = .returned (.bool true) ∧ Below w.heap.size w w' := by
  have H8 : Hid (∀ w : World, Calls Try.prog 8 #[.int .u64 n, .int .i64 z] w fun x w' => x = .returned (.tuple #[.string s, .int .i64 e]) ∧ Below w.heap.size w w') := h8
  have H9 : Hid (∀ w : World, Calls Try.prog 9 #[.int .u64 n, .int .i64 z] w fun x w' => x = .returned (.tuple #[.string s, .int .i64 e]) ∧ Below w.heap.size w w') := h9
  clear h8 h9
  go_enter Try.func3, Try.ntmps3
  go_wp2_with fail
  refine (H8.out _).mono ?_
  rintro x w1 ⟨rfl, g1⟩
  go_wp2_with fail
  refine (H9.out _).mono ?_
  rintro x w2 ⟨rfl, g2⟩
  go_wp2_with fail
  refine (awake_any _).mono ?_
  rintro x w3 ⟨rfl, g3⟩
  go_wp2_with fail
  go_ret
  exact ⟨rfl, btrans (btrans g1 g2) g3⟩

theorem puts_walk (n z : Int) (w : World) (wn : (Lit.int .u64 n).wf = true) (_ : (Lit.int .i64 z).wf = true) :
    Calls Try.prog 3 #[.int .u64 n, .int .i64 z] w fun x w' => x = .returned (.bool true) ∧ Below w.heap.size w w' := by
  have hw := bounds_u64 wn
  by_cases hz : 1 ≤ z ∧ z ≤ 8
  · obtain ⟨k, rfl⟩ := Int.eq_ofNat_of_zero_le (show 0 ≤ z by omega)
    have hr : ∀ w : World, _ := fun w => ref_any n k w (by omega) (by omega) hw.1 (by omega)
    by_cases h1 : n < 256 ^ k
    · have e : putR n k = .tuple #[.string (strOfNums (pieces n k)), .int .i64 0] := by rw [putR, if_pos h1]
      rw [e] at hr
      exact puts_of n k _ _ w (fun w => put_ok n k w (by omega) (by omega) hw.1 h1) hr
    · have e : putR n k = .tuple #[.string ⟨#[]⟩, .int .i64 1] := by rw [putR, if_neg h1]
      rw [e] at hr
      exact puts_of n k _ _ w (fun w => put_much n k w (by omega) (by omega) (by omega) h1) hr
  · exact puts_of n z _ _ w (fun w => put_size n z w (by omega)) (fun w => ref_size n z w (by omega))
end Go.Proofs.Ythhnnldmihcmmaa
