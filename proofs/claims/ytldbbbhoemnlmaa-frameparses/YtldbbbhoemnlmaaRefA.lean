/-
  What the document's own answers of this layer are made of: numbers as bytes, check sums.
-/
import Derived.Test.YtldbbbhoemnlmaaSpec
namespace Go.Proofs.Ytldbbbhoemnlmaa
open Go.ChangeShapes Go.WideShapes Go.ChangeAt Go.RowKit

theorem pieces_at : ∀ (k : Nat) (n : Int) (j : Nat), j < k → (pieces n k)[j]? = some (n / 2 ^ (8 * (k - 1 - j)) % 256)
  | 0, _, _, h => absurd h (Nat.not_lt_zero _)
  | k + 1, n, j, h => by
    by_cases hj : j < k
    · rw [pieces, List.getElem?_append_left (by rw [pieces_length]; exact hj), pieces_at k (n / 256) j hj]
      have e : k + 1 - 1 - j = (k - 1 - j) + 1 := by omega
      rw [e, Int.ediv_ediv_of_nonneg (by omega)]
      have e2 : 8 * (k - 1 - j + 1) = 8 + 8 * (k - 1 - j) := by omega
      rw [e2, Int.pow_add]
      rfl
    · have : j = k := by omega
      subst this
      rw [pieces, List.getElem?_append_right (by rw [pieces_length]; exact Nat.le_refl _), pieces_length]
      simp
theorem pieces_take (k : Nat) (n : Int) (j : Nat) (h : j < k) : (pieces n k).take (j + 1) = (pieces n k).take j ++ [n / 2 ^ (8 * (k - 1 - j)) % 256] := by
  rw [List.take_add_one, pieces_at k n j h]; rfl

/-- 'string(out)' of a row that is owned. -/
theorem cv_own (w : World) (base : Nat) (v : Value) (k : Nat) (xs : List Int) (hk : 1 ≤ k) (h : w.ownsRow base 5 1 v k (xs.map (Value.int .u8))) :
    ∃ g cap, v = .slice (some ⟨g, 0, none⟩) k cap ∧ (convert 35 9 (.slice (some ⟨g, 0, none⟩) k cap)).run Try.prog w = .ok (.string (strOfNums xs)) w := by
  have hl := h.1
  rcases h.2 with ⟨_, h'⟩ | ⟨g, cap, cur, rfl, _⟩
  · omega
  · refine ⟨g, cap, rfl, run_convert_bytes_arg w 35 5 Try.underlying35 Try.underlying5 g 0 k cap xs (by simpa using hl) (fun i hi => ?_) 9 Try.underlying9⟩
    rw [Nat.zero_add, h.cellAt i (by omega)]
    have hi' : i < xs.length := by simp at hl; omega
    simp [List.getElem?_eq_getElem hi']


set_option maxHeartbeats 1000000 in
theorem rput_any (n : Int) (k : Nat) (w : World) (hk1 : 1 ≤ k) (hk8 : k ≤ 8) (_ : 0 ≤ n) (h1 : n < 18446744073709551616) :
    Calls Try.prog 37 #[.int .u64 n, .int .i64 k] w fun e w' => e = .returned (.string (pb n k)) ∧ Below w.heap.size w w' := by
  obtain ⟨i0, hi, hz0, hz1, hz2⟩ := info_parts Try.info5
  have H1 : Hid (n < 18446744073709551616) := h1
  clear h1
  go_enter Try.func37, Try.ntmps37
  go_wp2
  go_loopw [5, 6] (fun v i wr => ∃ j : Nat, j ≤ k ∧ i = .int .i64 ((k : Int) - 1 - j) ∧ wr.ownsRow w.heap.size 5 1 v j (((pieces n k).take j).map (Value.int .u8)) ∧ Below w.heap.size w wr)
    (fun _ i _ => (1 + intOf i).toNat)
  case atStart => exact ⟨0, Nat.zero_le _, by simp, World.ownsRow_nil _ _ _ _, Below.refl _ _⟩
  case round =>
    obtain ⟨j, hj, rfl, hown, hbel⟩ := hrel
    by_cases hlt : j < k
    · go_wp2_with (at_builtin; refine wpList_append_own _ rfl _ _ 35 rfl (w.heap.size) 5 i0 (.int .u8 0) 1 1 Try.underlying35 hi hz0 hz1 hz2 rfl (by decide) _ _ _ rfl (hown.alloc _) ⟨wr.heap.size, 0, none⟩ 1 1 [.int .u8 (n / 2 ^ (8 * (k - 1 - j)) % 256)] rfl rfl ?c1 ?c2 ?c3 ?c4 ?c5 ?_)
      case c1 =>
        intro j u hj
        match j, hj with
        | 0, hj => simp at hj; subst hj; simp [Addr.add]
      case c2 => intro u hu; simp at hu; subst hu; rfl
      case c3 => unfold maxLen; omega
      case c4 => omega
      case c5 => have := hbel.size; simp; omega
      · intro v' w1 hown' hgrow _
        have R1 : w1.ownsRow w.heap.size 5 1 v' (j + 1) (((pieces n k).take (j + 1)).map (Value.int .u8)) := by
          rw [pieces_take k n j hlt]
          simpa using hown'
        have R2 : Below w.heap.size w w1 := (hbel.alloc hbel.size _).grown hgrow (by have := hbel.size; simp; omega) (fun q hq => (hown.lt q hq).1)
        clear hown' hgrow hown hbel
        go_wp2
        go_roundw
        case rel => exact ⟨j + 1, by omega, by go_num, R1, R2⟩
        case measure => simp [intOf]; omega
    · obtain rfl : j = k := by omega
      rw [List.take_of_length_le (by rw [pieces_length]; exact Nat.le_refl _)] at hown
      obtain ⟨g, cap, rfl, hcv⟩ := cv_own wr _ _ _ _ hk1 hown
      clear hown
      go_wp2
      go_ret
      exact ⟨rfl, hbel⟩

set_option maxHeartbeats 400000 in
theorem refRound_any (n : Nat) (w : World) (h : n < 2 ^ 62) :
    Calls Try.prog 55 #[.int .i64 n] w fun x w' => x = .returned (.int .i64 (rnd n)) ∧ w' = w := by
  go_enter Try.func55, Try.ntmps55
  go_wp2
  go_loop [0] (fun v => ∃ k : Nat, (k : Int) < 4611686018427387904 ∧ rnd k = rnd n ∧ v = .int .i64 k) (fun v => (intOf v).toNat)
  case atStart => exact ⟨n, by omega, rfl, rfl⟩
  case round =>
    obtain ⟨k, hk, hr, rfl⟩ := hrel
    by_cases hlt : (65536 : Int) ≤ (k : Int)
    · go_wp2
      go_round
      case rel => exact ⟨k % 65536 + k / 65536, by omega, by rw [rnd_step k (by omega), hr], by go_num⟩
      case measure => simp only [intOf]; omega
    · go_wp2
      go_ret
      exact ⟨ret_int (by rw [← hr, rnd_small k (by omega)]), rfl⟩

set_option maxHeartbeats 400000 in
theorem refSum_any (s : ByteArray) (w : World) (hs : s.size ≤ 1000000) :
    Calls Try.prog 35 #[.string s] w fun x w' => x = .returned (.int .i64 (sumV s.data.toList)) ∧ w' = w := by
  go_enter Try.func35, Try.ntmps35
  go_wp2
  go_loop [3, 4] (fun n i => ∃ k : Nat, k ≤ s.size + 1 ∧ k % 2 = 0 ∧ i = .int .i64 k ∧ n = .int .i64 (rnd (psum true (s.data.toList.take k)))) (fun _ i => s.size + 1 - (intOf i).toNat)
  case atStart => exact ⟨0, Nat.zero_le _, rfl, rfl, rfl⟩
  case round =>
    obtain ⟨k, hk, he, rfl, rfl⟩ := hrel
    have HR := rnd_le (psum true (s.data.toList.take k))
    by_cases hlt : k < s.size
    · have HS : Hid (psum true (s.data.toList.take (k + 1)) = psum true (s.data.toList.take k) + 256 * s[k].toNat) := by
        have h := psum_take s k hlt
        rw [if_pos he] at h
        exact h
      have hc := s[k].toNat_lt
      by_cases hl2 : k + 1 < s.size
      · have HT : Hid (psum true (s.data.toList.take (k + 2)) = psum true (s.data.toList.take (k + 1)) + s[k+1].toNat) := by
          have h := psum_take s (k + 1) hl2
          rw [if_neg (by omega)] at h
          exact h
        have hd := s[k+1].toNat_lt
        have E : Hid (rnd (rnd (psum true (s.data.toList.take k)) + 256 * s[k].toNat + s[k+1].toNat) = rnd (psum true (s.data.toList.take (k + 2)))) := by
          unfold Hid
          rw [HT.out, HS.out, Nat.add_assoc, Nat.add_assoc, rnd_left]
        go_wp2_with fail
        rw [show ((rnd (psum true (List.take k s.data.toList)) : Int) + 256 * (s[k].toNat : Int) + (s[k + 1].toNat : Int)) = ((rnd (psum true (s.data.toList.take k)) + 256 * s[k].toNat + s[k+1].toNat : Nat) : Int) by omega]
        refine (refRound_any _ _ (by omega)).mono ?_
        rintro x w1 ⟨rfl, rfl⟩
        go_wp2_with fail
        go_round
        case rel => exact ⟨k + 2, by omega, by omega, by go_num, by rw [E.out]⟩
        case measure => simp [intOf]; omega
      · have E : Hid (rnd (rnd (psum true (s.data.toList.take k)) + 256 * s[k].toNat) = rnd (psum true (s.data.toList.take (k + 2)))) := by
          unfold Hid
          have q : s.data.toList.take (k + 2) = s.data.toList.take (k + 1) := by
            rw [List.take_of_length_le (by simp; omega), List.take_of_length_le (by simp; omega)]
          rw [q, HS.out, rnd_left]
        go_wp2_with fail
        rw [show ((rnd (psum true (List.take k s.data.toList)) : Int) + 256 * (s[k].toNat : Int)) = ((rnd (psum true (s.data.toList.take k)) + 256 * s[k].toNat : Nat) : Int) by omega]
        refine (refRound_any _ _ (by omega)).mono ?_
        rintro x w1 ⟨rfl, rfl⟩
        go_wp2_with fail
        go_round
        case rel => exact ⟨k + 2, by omega, by omega, by go_num, by rw [E.out]⟩
        case measure => simp [intOf]; omega
    · go_wp2
      go_ret
      have e := sumV_eq s.data.toList
      rw [List.take_of_length_le (by simp; omega)]
      exact ⟨ret_int e, rfl⟩

set_option maxHeartbeats 400000 in
theorem rnum_any (s : ByteArray) (w : World) (hs : s.size ≤ 100000) :
    Calls Try.prog 44 #[.string s] w fun x w' => x = .returned (.int .u64 (numOf s.data.toList)) ∧ w' = w := by
  go_enter Try.func44, Try.ntmps44
  go_wp2
  go_loop [3, 4] (fun n i => ∃ k : Nat, k ≤ s.size ∧ i = .int .i64 k ∧ n = .int .u64 (numOf (s.data.toList.take k))) (fun _ i => s.size - (intOf i).toNat)
  case atStart => exact ⟨0, Nat.zero_le _, rfl, rfl⟩
  case round =>
    obtain ⟨k, hk, rfl, rfl⟩ := hrel
    by_cases hlt : k < s.size
    · have HS : Hid (numOf (s.data.toList.take (k + 1)) = stepN (numOf (s.data.toList.take k)) s[k]) := numOf_take s k hlt
      go_wp2
      go_round
      case rel => exact ⟨k + 1, by omega, by go_num, by rw [HS.out]; rfl⟩
      case measure => simp [intOf]; omega
    · go_wp2
      go_ret
      exact ⟨ret_int (by rw [List.take_of_length_le (by simp; omega)]), rfl⟩

set_option maxHeartbeats 400000 in
theorem rin_any (n lo hi : Int) (w : World) :
    Calls Try.prog 32 #[.int .i64 n, .int .i64 lo, .int .i64 hi] w fun x w' => x = .returned (.bool (inB n lo hi)) ∧ w' = w := by
  unfold inB
  by_cases h1 : lo ≤ n <;> by_cases h2 : n ≤ hi <;>
  · go_enter Try.func32, Try.ntmps32
    go_wp2
    go_ret
    simp [h1, h2]

set_option maxHeartbeats 400000 in
theorem rported_any (p : Pk) (w : World) :
    Calls Try.prog 33 #[pkV p] w fun x w' => x = .returned (.bool (hasB p)) ∧ Below w.heap.size w w' := by
  go_enter Try.func33, Try.ntmps33
  go_wp2
  · go_ret
    exact ⟨ret_bool (by simp [hasB, *]), by go_grown⟩
  · go_ret
    exact ⟨ret_bool (by simp [hasB, *]), by go_grown⟩
end Go.Proofs.Ytldbbbhoemnlmaa
