/-
  What the document's own 'Bytes' answers: as the program's; the walk of the law FrameBytes.
-/
import Derived.Test.YtldbbbhoemnlmaaRefX
import Derived.Test.YtldbbbhoemnlmaaOpen
namespace Go.Proofs.Ytldbbbhoemnlmaa
open Go.ChangeShapes Go.WideShapes Go.ChangeAt Go.RowKit

theorem rsumB_le (p : Pk) : rsumB p ≤ 65535 := fixV_le _ _ (sumV_le _)
theorem write_sums (p : Pk) : writeV p (headSumV p) (rsumB p) = writeV p (sumA p) (sumB p) := by
  unfold writeV
  by_cases ht : p.ty = 2048
  · rw [if_pos ht, if_pos ht]
    have e1 : sumA p = headSumV p := if_pos ht
    have e2 : sumB p = partSumV p := if_pos ht
    rw [e1, e2]
    by_cases hh : hasB p = true
    · have e3 : partSumV p = rsumB p := if_pos hh
      rw [e3]
    · have e4 : ∀ c, partV p c = p.data := fun c => by
        unfold hasB at hh; simp at hh
        unfold partV; rw [if_neg hh.1, if_neg hh.2]
      rw [e4, e4]
  · rw [if_neg ht, if_neg ht]

set_option maxHeartbeats 1000000 in
theorem rbytes_ok (p : Pk) (a b : Int) (s : ByteArray) (w : World) (hd : (p.data.size : Int) ≤ 1500) (hs : (s.size : Int) ≤ 1500) (H1 : Hid (∀ w, Calls Try.prog 18 #[pkV p] w fun x w' => x = .returned (.bool true) ∧ Below w.heap.size w w')) (H2 : Hid (∀ w, Calls Try.prog 19 #[pkV p] w fun x w' => x = .returned (.tuple #[.int .i64 a, .int .i64 b]) ∧ Below w.heap.size w w')) (H3 : Hid (∀ w, Calls Try.prog 20 #[pkV p, .int .i64 a, .int .i64 b] w fun x w' => x = .returned (.string s) ∧ Below w.heap.size w w')) :
    Calls Try.prog 10 #[pkV p] w fun x w' => x = .returned (.tuple #[.string s, .int .i64 0]) ∧ Below w.heap.size w w' := by
  go_enter Try.func10, Try.ntmps10
  go_wp2_with fail
  refine (H1.out _).mono ?_
  rintro x w1 ⟨rfl, g1⟩
  have B1 := (Bx.new w p).below (by simp) g1
  have L1 : w.heap.size < w1.heap.size := Nat.lt_of_lt_of_le (by simp) g1.size
  have G1 : Below w.heap.size w w1 := btr (by go_grown) g1 (by simp)
  obtain ⟨h0, h1, h2, h3, h4, h5, h6, h7, h8, h9, h10⟩ := id B1
  go_wp2_with fail
  refine (H2.out _).mono ?_
  rintro x w2 ⟨rfl, g2⟩
  have B2 := B1.below L1 g2
  have G2 := btr G1 g2 (Nat.le_refl _)
  clear h0 h1 h2 h3 h4 h5 h6 h7 h8 h9 h10 g1 g2 B1
  obtain ⟨h0, h1, h2, h3, h4, h5, h6, h7, h8, h9, h10⟩ := B2
  go_wp2_with fail
  refine (H3.out _).mono ?_
  rintro x w3 ⟨rfl, g3⟩
  go_wp2_with fail
  go_ret2
  exact ⟨rfl, btr G2 g3 (Nat.le_refl _)⟩

set_option maxHeartbeats 1000000 in
theorem rbytes_long (p : Pk) (a b : Int) (s : ByteArray) (w : World) (hd : (p.data.size : Int) ≤ 1500) (hs : (1500 : Int) < (s.size : Int)) (H1 : Hid (∀ w, Calls Try.prog 18 #[pkV p] w fun x w' => x = .returned (.bool true) ∧ Below w.heap.size w w')) (H2 : Hid (∀ w, Calls Try.prog 19 #[pkV p] w fun x w' => x = .returned (.tuple #[.int .i64 a, .int .i64 b]) ∧ Below w.heap.size w w')) (H3 : Hid (∀ w, Calls Try.prog 20 #[pkV p, .int .i64 a, .int .i64 b] w fun x w' => x = .returned (.string s) ∧ Below w.heap.size w w')) :
    Calls Try.prog 10 #[pkV p] w fun x w' => x = .returned (.tuple #[.string ⟨#[]⟩, .int .i64 44]) ∧ Below w.heap.size w w' := by
  go_enter Try.func10, Try.ntmps10
  go_wp2_with fail
  refine (H1.out _).mono ?_
  rintro x w1 ⟨rfl, g1⟩
  have B1 := (Bx.new w p).below (by simp) g1
  have L1 : w.heap.size < w1.heap.size := Nat.lt_of_lt_of_le (by simp) g1.size
  have G1 : Below w.heap.size w w1 := btr (by go_grown) g1 (by simp)
  obtain ⟨h0, h1, h2, h3, h4, h5, h6, h7, h8, h9, h10⟩ := id B1
  go_wp2_with fail
  refine (H2.out _).mono ?_
  rintro x w2 ⟨rfl, g2⟩
  have B2 := B1.below L1 g2
  have G2 := btr G1 g2 (Nat.le_refl _)
  clear h0 h1 h2 h3 h4 h5 h6 h7 h8 h9 h10 g1 g2 B1
  obtain ⟨h0, h1, h2, h3, h4, h5, h6, h7, h8, h9, h10⟩ := B2
  go_wp2_with fail
  refine (H3.out _).mono ?_
  rintro x w3 ⟨rfl, g3⟩
  go_wp2_with fail
  go_ret2
  exact ⟨rfl, btr G2 g3 (Nat.le_refl _)⟩

set_option maxHeartbeats 1000000 in
theorem rbytes_big (p : Pk) (w : World) (hd : (1500 : Int) < (p.data.size : Int)) (H1 : Hid (∀ w, Calls Try.prog 18 #[pkV p] w fun x w' => x = .returned (.bool true) ∧ Below w.heap.size w w')) :
    Calls Try.prog 10 #[pkV p] w fun x w' => x = .returned (.tuple #[.string ⟨#[]⟩, .int .i64 44]) ∧ Below w.heap.size w w' := by
  go_enter Try.func10, Try.ntmps10
  go_wp2_with fail
  refine (H1.out _).mono ?_
  rintro x w1 ⟨rfl, g1⟩
  have B1 := (Bx.new w p).below (by simp) g1
  obtain ⟨h0, h1, h2, h3, h4, h5, h6, h7, h8, h9, h10⟩ := id B1
  go_wp2_with fail
  go_ret2
  exact ⟨rfl, btr (by go_grown) g1 (by simp)⟩

set_option maxHeartbeats 1000000 in
theorem rbytes_no (p : Pk) (w : World) (H1 : Hid (∀ w, Calls Try.prog 18 #[pkV p] w fun x w' => x = .returned (.bool false) ∧ Below w.heap.size w w')) :
    Calls Try.prog 10 #[pkV p] w fun x w' => x = .returned (.tuple #[.string ⟨#[]⟩, .int .i64 1]) ∧ Below w.heap.size w w' := by
  go_enter Try.func10, Try.ntmps10
  go_wp2_with fail
  refine (H1.out _).mono ?_
  rintro x w1 ⟨rfl, g1⟩
  go_wp2_with fail
  go_ret2
  exact ⟨rfl, btr (by go_grown) g1 (by simp)⟩

theorem rbytes_any (p : Pk) (w : World) (h : Wf p) (hs : p.data.size ≤ 3000) :
    Calls Try.prog 10 #[pkV p] w fun x w' => x = .returned (.tuple #[.string (bytesS p), .int .i64 (bytesE p)]) ∧ Below w.heap.size w w' := by
  have H1 := fun w => rright_any p w h
  unfold bytesS bytesE
  cases hr : rightB p
  · rw [hr] at H1
    rw [if_neg (by simp), if_neg (by simp)]
    exact rbytes_no p w H1
  rw [hr] at H1
  rw [if_pos rfl]
  have ho : Ok p := Ok.of_right h hr hs
  have ha := rsumB_le p
  have hb : headSumV p ≤ 65535 := sumV_le _
  have hz := writeV_size p (headSumV p) (rsumB p) (right_pro h hr)
  have H2 := fun w => rsums_any p w ho
  have H3 := fun w => rwith_any p (headSumV p) (rsumB p) w ho (by omega) (by omega) (by omega) (by omega)
  by_cases hg : aheadV p + p.data.size ≤ 1500
  · rw [if_pos ⟨rfl, hg⟩, if_pos hg, ← write_sums]
    exact rbytes_ok p _ _ _ w (by omega) (by rw [hz]; omega) H1 H2 H3
  rw [if_neg (fun x => hg x.2), if_neg hg]
  by_cases hd : p.data.size ≤ 1500
  · exact rbytes_long p _ _ _ w (by omega) (by rw [hz]; omega) H1 H2 H3
  · exact rbytes_big p w (by omega) H1

set_option maxHeartbeats 1000000 in
theorem bytes_walk (p : Pk) (w : World) (hw : Wf p) (_ : p.data.size ≤ maxLen) : Calls Try.prog 3 #[pkV p] w fun x w' => x = .returned (.bool true) ∧ Below w.heap.size w w' := by
  by_cases h1 : (3000 : Int) < (p.data.size : Int)
  · clear hw
    go_enter Try.func3, Try.ntmps3
    go_wp2_with fail
    refine (awake_any _).mono ?_
    rintro x w5 ⟨rfl, g5⟩
    go_wp2_with fail
    go_ret
    exact ⟨rfl, btr (by go_grown) g5 (by simp)⟩
  · have hd : (p.data.size : Int) ≤ 3000 := by omega
    have H9 : Hid (∀ w, Calls Try.prog 9 #[pkV p] w fun x w' => x = .returned (.tuple #[.string (bytesS p), .int .i64 (bytesE p)]) ∧ Below w.heap.size w w') := fun w => bytesP_any p w hw (by omega)
    have H10 : Hid (∀ w, Calls Try.prog 10 #[pkV p] w fun x w' => x = .returned (.tuple #[.string (bytesS p), .int .i64 (bytesE p)]) ∧ Below w.heap.size w w') := fun w => rbytes_any p w hw (by omega)
    generalize bytesS p = s at *
    generalize bytesE p = e at *
    clear h1 hw
    go_enter Try.func3, Try.ntmps3
    go_wp2_with fail
    refine (H9.out _).mono ?_
    rintro x w1 ⟨rfl, g1⟩
    have B1 := (Bx.new w p).below (by simp) g1
    have G1 : Below w.heap.size w w1 := btr (by go_grown) g1 (by simp)
    obtain ⟨h0, h1, h2, h3, h4, h5, h6, h7, h8, h9, h10⟩ := B1
    go_wp2_with fail
    refine (H10.out _).mono ?_
    rintro x w2 ⟨rfl, g2⟩
    have G2 := btr G1 g2 (Nat.le_refl _)
    clear h0 h1 h2 h3 h4 h5 h6 h7 h8 h9 h10 g1 g2
    go_wp2_with fail
    refine (awake_any _).mono ?_
    rintro x w5 ⟨rfl, g5⟩
    go_wp2_with fail
    go_ret
    exact ⟨rfl, btr G2 g5 (Nat.le_refl _)⟩
end Go.Proofs.Ytldbbbhoemnlmaa
