/-
  What the methods of the document's own reader (droverref01) do.
-/
import Derived.Test.YthhnnldmihcmmaaRead
namespace Go.Proofs.Ythhnnldmihcmmaa
open Go.ChangeShapes Go.WideShapes Go.ChangeAt Go.RowKit

def refS (s : ByteArray) (e n : Int) (may : Bool) : ByteArray := if e = 0 ∧ may = true ∧ n ≤ s.size then s.extract n.toNat s.size else s

set_option maxHeartbeats 400000 in
theorem ref_bytes (b : Nat) (s : ByteArray) (e n : Int) (w : World) (r : Rd w b s e) :
    Calls Try.prog 13 #[.pointer (some ⟨b, 0, none⟩), .int .i64 n] w fun x w' =>
      x = .returned (.string (takeV s e n (decide (0 ≤ n)))) ∧ Rd w' b (refS s e n (decide (0 ≤ n))) (takeE s e n (decide (0 ≤ n))) ∧ Only b w w' := by
  have r0 := r
  obtain ⟨c0, c1, f0, f1⟩ := r
  by_cases he : e = 0
  · subst he
    by_cases hn : 0 ≤ n
    · by_cases hl : n ≤ s.size
      · have v1 : takeV s 0 n (decide (0 ≤ n)) = s.extract 0 n.toNat := by simp [takeV, hl, hn]
        have v2 : refS s 0 n (decide (0 ≤ n)) = s.extract n.toNat s.size := by simp [refS, hl, hn]
        have v3 : takeE s 0 n (decide (0 ≤ n)) = 0 := by simp [takeE, hl, hn]
        rw [v1, v2, v3]
        obtain ⟨k, rfl⟩ := Int.eq_ofNat_of_zero_le hn
        clear v1 v2 v3 hn
        go_enter Try.func13, Try.ntmps13
        go_wp2
        go_ret
        exact ⟨rfl, r0.set0 _, (Only.refl _ _).setCell 0 _⟩
      · have v1 : takeV s 0 n (decide (0 ≤ n)) = noB := by simp [takeV, hl]
        have v2 : refS s 0 n (decide (0 ≤ n)) = s := by simp [refS, hl]
        have v3 : takeE s 0 n (decide (0 ≤ n)) = 10 := by simp [takeE, hl, hn]
        rw [v1, v2, v3]
        clear v1 v2 v3
        go_enter Try.func13, Try.ntmps13
        go_wp2
        go_ret
        exact ⟨rfl, r0.set1 10, (Only.refl _ _).setCell 1 _⟩
    · have v1 : takeV s 0 n (decide (0 ≤ n)) = noB := by simp [takeV, hn]
      have v2 : refS s 0 n (decide (0 ≤ n)) = s := by simp [refS, hn]
      have v3 : takeE s 0 n (decide (0 ≤ n)) = 1 := by simp [takeE, hn]
      rw [v1, v2, v3]
      clear v1 v2 v3
      go_enter Try.func13, Try.ntmps13
      go_wp2
      go_ret
      exact ⟨rfl, r0.set1 1, (Only.refl _ _).setCell 1 _⟩
  · have v1 : takeV s e n (decide (0 ≤ n)) = noB := by simp [takeV, he]
    have v2 : refS s e n (decide (0 ≤ n)) = s := by simp [refS, he]
    have v3 : takeE s e n (decide (0 ≤ n)) = e := by simp [takeE, he]
    rw [v1, v2, v3]
    have hb : (e != 0) = true := by simp [he]
    clear v1 v2 v3 he
    go_enter Try.func13, Try.ntmps13
    go_wp2
    go_ret
    exact ⟨rfl, r0, Only.refl _ _⟩

theorem numV_none (s : ByteArray) (e n : Int) (h : takeV s e n (szB n) = noB) : numV s e n = 0 := by unfold numV; rw [h]; rfl
theorem numV_some (s : ByteArray) (k : Nat) (h : takeV s 0 k (szB k) = s.extract 0 k) : numV s 0 k = numOf (s.data.toList.take k) := by
  unfold numV
  rw [h]
  congr 1
  simp

set_option maxHeartbeats 400000 in
theorem ref_num (b : Nat) (s : ByteArray) (e n : Int) (w : World) (r : Rd w b s e) :
    Calls Try.prog 15 #[.pointer (some ⟨b, 0, none⟩), .int .i64 n] w fun x w' =>
      x = .returned (.int .u64 (numV s e n)) ∧ Rd w' b (refS s e n (szB n)) (takeE s e n (szB n)) ∧ Only b w w' := by
  have r0 := r
  obtain ⟨c0, c1, f0, f1⟩ := r
  by_cases he : e = 0
  · subst he
    by_cases hz : szB n = true
    · have hn : 1 ≤ n ∧ n ≤ 8 := by unfold szB at hz; simpa using hz
      obtain ⟨hn1, hn8⟩ := hn
      by_cases hl : n ≤ s.size
      · obtain ⟨k, rfl⟩ := Int.eq_ofNat_of_zero_le (show 0 ≤ n by omega)
        have v1 : numV s 0 k = numOf (s.data.toList.take k) := numV_some s k (by simp [takeV, hl, hz])
        have v2 : refS s 0 k (szB k) = s.extract k s.size := by simp [refS, hl, hz]
        have v3 : takeE s 0 k (szB k) = 0 := by simp [takeE, hl, hz]
        rw [v1, v2, v3]
        have hks : k ≤ s.size := by omega
        clear v1 v2 v3 hz
        go_enter Try.func15, Try.ntmps15
        go_wp2
        go_loop [5, 6] (fun v i => ∃ j : Nat, j ≤ k ∧ i = .int .i64 j ∧ v = .int .u64 (numOf (s.data.toList.take j))) (fun _ i => k - (intOf i).toNat)
        case atStart => exact ⟨0, Nat.zero_le _, rfl, rfl⟩
        case round =>
          obtain ⟨j, hj, rfl, rfl⟩ := hrel
          by_cases hlt : j < k
          · have hjs : j < s.size := by omega
            have HS : Hid (numOf (s.data.toList.take (j + 1)) = stepN (numOf (s.data.toList.take j)) s[j]) := numOf_take s j hjs
            go_wp2
            go_round
            case rel => exact ⟨j + 1, by omega, by go_num, by rw [HS.out]; rfl⟩
            case measure => simp [intOf]; omega
          · obtain rfl : j = k := by omega
            go_wp2
            go_ret
            exact ⟨rfl, r0.set0 _, (Only.refl _ _).setCell 0 _⟩
      · have v1 : numV s 0 n = 0 := numV_none _ _ _ (by simp [takeV, hl])
        have v2 : refS s 0 n (szB n) = s := by simp [refS, hl]
        have v3 : takeE s 0 n (szB n) = 10 := by simp [takeE, hl, hz]
        rw [v1, v2, v3]
        clear v1 v2 v3 hz
        go_enter Try.func15, Try.ntmps15
        go_wp2
        go_ret
        exact ⟨rfl, r0.set1 10, (Only.refl _ _).setCell 1 _⟩
    · have v1 : numV s 0 n = 0 := numV_none _ _ _ (by simp [takeV, hz])
      have v2 : refS s 0 n (szB n) = s := by simp [refS, hz]
      have v3 : takeE s 0 n (szB n) = 1 := by simp [takeE, hz]
      rw [v1, v2, v3]
      have hn : n < 1 ∨ 8 < n := by unfold szB at hz; simp at hz; omega
      clear v1 v2 v3 hz
      by_cases h1 : n < 1
      · clear hn
        go_enter Try.func15, Try.ntmps15
        go_wp2
        go_ret
        exact ⟨rfl, r0.set1 1, (Only.refl _ _).setCell 1 _⟩
      · have h8 : 8 < n := by omega
        clear hn
        go_enter Try.func15, Try.ntmps15
        go_wp2
        go_ret
        exact ⟨rfl, r0.set1 1, (Only.refl _ _).setCell 1 _⟩
  · have v1 : numV s e n = 0 := numV_none _ _ _ (by simp [takeV, he])
    have v2 : refS s e n (szB n) = s := by simp [refS, he]
    have v3 : takeE s e n (szB n) = e := by simp [takeE, he]
    rw [v1, v2, v3]
    have hb : (e != 0) = true := by simp [he]
    clear v1 v2 v3 he
    go_enter Try.func15, Try.ntmps15
    go_wp2
    go_ret
    exact ⟨rfl, r0, Only.refl _ _⟩

def leftV (s : ByteArray) (e : Int) : Int := if e = 0 then s.size else 0
set_option maxHeartbeats 400000 in
theorem ref_left (b : Nat) (s : ByteArray) (e : Int) (w : World) (r : Rd w b s e) :
    Calls Try.prog 17 #[.pointer (some ⟨b, 0, none⟩)] w fun x w' => x = .returned (.int .i64 (leftV s e)) ∧ w' = w := by
  obtain ⟨c0, c1, f0, f1⟩ := r
  by_cases he : e = 0
  · subst he
    have v : leftV s 0 = s.size := rfl
    rw [v]
    clear v
    go_enter Try.func17, Try.ntmps17
    go_wp2
    go_ret
    exact ⟨rfl, rfl⟩
  · have v : leftV s e = 0 := by simp [leftV, he]
    have hb : (e != 0) = true := by simp [he]
    rw [v]
    clear v he
    go_enter Try.func17, Try.ntmps17
    go_wp2
    go_ret
    exact ⟨rfl, rfl⟩

set_option maxHeartbeats 400000 in
theorem ref_end (b : Nat) (s : ByteArray) (e : Int) (w : World) (r : Rd w b s e) :
    Calls Try.prog 19 #[.pointer (some ⟨b, 0, none⟩)] w fun x w' => x = .returned (.int .i64 (endV s e)) ∧ w' = w := by
  obtain ⟨c0, c1, f0, f1⟩ := r
  by_cases he : e = 0
  · subst he
    by_cases hz : s.size = 0
    · have v : endV s 0 = 0 := by simp [endV, hz]
      rw [v]
      have es : s = ⟨#[]⟩ := by
        obtain ⟨d⟩ := s
        have : d = #[] := Array.eq_empty_of_size_eq_zero hz
        rw [this]
      subst es
      clear v hz
      go_enter Try.func19, Try.ntmps19
      go_wp2
      go_ret
      exact ⟨rfl, rfl⟩
    · have v : endV s 0 = 12 := by simp [endV, hz]
      rw [v]
      have ht : (!s.toList.isEmpty) = true := by
        rw [ByteArray.toList_eq]
        cases hd : s.data.toList with
        | nil => exact absurd (congrArg List.length hd) (by simpa using hz)
        | cons x l => rfl
      clear v
      go_enter Try.func19, Try.ntmps19
      go_wp2
      go_ret
      exact ⟨rfl, rfl⟩
  · have v : endV s e = e := by simp [endV, he]
    rw [v]
    have hb : (e == 0) = false := by simp [he]
    clear v he
    go_enter Try.func19, Try.ntmps19
    go_wp2
    go_ret
    exact ⟨rfl, rfl⟩
end Go.Proofs.Ythhnnldmihcmmaa
