/-
  What the document's own writers answer: the same bytes.
-/
import Derived.Test.YtldbbbhoemnlmaaRefA
namespace Go.Proofs.Ytldbbbhoemnlmaa
open Go.ChangeShapes Go.WideShapes Go.ChangeAt Go.RowKit

theorem ret_str {a b : ByteArray} (h : a = b) : Ending.returned (.string a) = .returned (.string b) := by rw [h]
theorem rp1 (n : Int) (w : World) (h0 : 0 ≤ n) (h1 : n < 18446744073709551616) : Calls Try.prog 37 #[.int .u64 n, .int .i64 1] w fun e w' => e = .returned (.string (pb n 1)) ∧ Below w.heap.size w w' := rput_any n 1 w (by omega) (by omega) h0 h1
theorem rp2 (n : Int) (w : World) (h0 : 0 ≤ n) (h1 : n < 18446744073709551616) : Calls Try.prog 37 #[.int .u64 n, .int .i64 2] w fun e w' => e = .returned (.string (pb n 2)) ∧ Below w.heap.size w w' := rput_any n 2 w (by omega) (by omega) h0 h1
theorem rp4 (n : Int) (w : World) (h0 : 0 ≤ n) (h1 : n < 18446744073709551616) : Calls Try.prog 37 #[.int .u64 n, .int .i64 4] w fun e w' => e = .returned (.string (pb n 4)) ∧ Below w.heap.size w w' := rput_any n 4 w (by omega) (by omega) h0 h1
theorem rp6 (n : Int) (w : World) (h0 : 0 ≤ n) (h1 : n < 18446744073709551616) : Calls Try.prog 37 #[.int .u64 n, .int .i64 6] w fun e w' => e = .returned (.string (pb n 6)) ∧ Below w.heap.size w w' := rput_any n 6 w (by omega) (by omega) h0 h1
theorem ap_as (a b c : ByteArray) : a ++ b ++ c = a ++ (b ++ c) := by
  have e : ∀ x y : ByteArray, x.data.toList = y.data.toList → x = y := fun x y h => by cases x; cases y; simpa using h
  apply e; simp

def headN (p : Pk) (n c : Int) : ByteArray := kBegin ++ pb n 2 ++ kMark ++ pb p.life 1 ++ pb p.pro 1 ++ pb c 2 ++ pb p.src 4 ++ pb p.dst 4
theorem headN_eq (p : Pk) (c : Int) : headN p (20 + (partZ p : Int)) c = headV p c := by unfold headN headV addrV; simp only [ap_as]
theorem headN_size (p : Pk) (n c : Int) : (headN p n c).size = 20 := by simp only [headN, ByteArray.size_append, pb_size, kBegin_size, kMark_size]

set_option maxHeartbeats 1000000 in
theorem rhead_any (p : Pk) (n c : Int) (w : World) (h : Ok p) (n0 : 0 ≤ n) (n1 : n ≤ 65535) (c0 : 0 ≤ c) (c1 : c ≤ 65535) :
    Calls Try.prog 36 #[pkV p, .int .i64 n, .int .i64 c] w fun x w' => x = .returned (.string (headN p n c)) ∧ Below w.heap.size w w' := by
  have hz : ∀ n k, (pb n k).size = k := pb_size
  have hl0 := h.life0
  have hl1 := h.life1
  have hp0 := h.pro0
  have hp1 := h.pro1
  have s0 := h.src0
  have s1 := h.src1
  have d0 := h.dst0
  have d1 := h.dst1
  clear h
  go_enter Try.func36, Try.ntmps36
  go_wp2
  have hc : ∀ n : GrT (bx w p), Bx n.w w.heap.size p := fun n => (Bx.new w p).below (by simp) n.h
  refine wp_region_grow (by kernel_rfl) (by kernel_rfl) ?_
  repeat (go_big_quiet_step (first
    | (go_at_call_of 37 (Value.int IntKind.i64 2); exact quiet_gr (rp2 _ _ (by omega) (by omega)))
    | (go_at_call_of 37 (Value.int IntKind.i64 1); exact quiet_gr (rp1 _ _ (by omega) (by omega)))
    | (go_at_call_of 37 (Value.int IntKind.i64 4); exact quiet_gr (rp4 _ _ (by omega) (by omega)))))
  refine wpQuiet_nil ?_
  rintro w1 hw'
  have g1 := gr_elim hw'
  clear hw'
  go_wp2
  go_ret
  exact ⟨rfl, btr (by go_grown) g1 (by simp)⟩

theorem partZ_17 (p : Pk) (h : p.pro = 17) : (partZ p : Int) = 8 + (p.data.size : Int) := by unfold partZ partA; rw [if_neg (by omega), if_pos h]; omega

set_option maxHeartbeats 1000000 in
theorem rpart_any (p : Pk) (c : Int) (w : World) (h : Ok p) (c0 : 0 ≤ c) (c1 : c ≤ 65535) :
    Calls Try.prog 34 #[pkV p, .int .i64 c] w fun x w' => x = .returned (.string (partV p c)) ∧ Below w.heap.size w w' := by
  have hz : ∀ n k, (pb n k).size = k := pb_size
  have s0 := h.sp0
  have s1 := h.sp1
  have d0 := h.dp0
  have d1 := h.dp1
  have hd : (p.data.size : Int) ≤ 3000 := by have := h.sz; omega
  clear h
  unfold partV
  by_cases h17 : p.pro = 17
  · rw [if_neg (by omega), if_pos h17, partZ_17 p h17]
    have b17 : (p.pro == 17) = true := by simp [h17]
    clear h17
    go_enter Try.func34, Try.ntmps34
    go_wp2
    have hc : ∀ n : GrT (bx w p), Bx n.w w.heap.size p := fun n => (Bx.new w p).below (by simp) n.h
    refine wp_region_grow (by kernel_rfl) (by kernel_rfl) ?_
    repeat (go_big_quiet_step (first | (go_at_call 37; exact quiet_gr (rp2 _ _ (by omega) (by omega)))))
    refine wpQuiet_nil ?_
    rintro w1 hw'
    have g1 := gr_elim hw'
    have HB : Hid (Bx w1 w.heap.size p) := (Bx.new w p).below (by simp) g1
    have hl : w.heap.size < w1.heap.size := Nat.lt_of_lt_of_le (by simp) g1.size
    clear hw' hc
    obtain ⟨h0, h1, h2, h3, h4, h5, h6, h7, h8, h9, h10⟩ := HB.out
    go_wp2_with fail
    clear h0 h1 h2 h3 h4 h5 h6 h7 h8 h9 h10
    have hc : ∀ n : GrT w1, Bx n.w w.heap.size p := fun n => HB.out.below hl n.h
    refine wp_region_grow (by kernel_rfl) (by kernel_rfl) ?_
    repeat (go_big_quiet_step (first | (go_at_call 37; exact quiet_gr (rp2 _ _ (by omega) (by omega)))))
    refine wpQuiet_nil ?_
    rintro w2 hw'
    have g2 := gr_elim hw'
    clear hw'
    go_wp2
    go_ret
    exact ⟨rfl, btr (btr (by go_grown) g1 (by simp)) g2 (Nat.le_refl _)⟩
  have b17 : (p.pro == 17) = false := by simp [h17]
  by_cases h6 : p.pro = 6
  · rw [if_pos h6]
    have b6 : (p.pro == 6) = true := by simp [h6]
    clear h17 h6
    go_enter Try.func34, Try.ntmps34
    go_wp2
    have hc : ∀ n : GrT (bx w p), Bx n.w w.heap.size p := fun n => (Bx.new w p).below (by simp) n.h
    refine wp_region_grow (by kernel_rfl) (by kernel_rfl) ?_
    repeat (go_big_quiet_step (first | (go_at_call 37; exact quiet_gr (rp2 _ _ (by omega) (by omega)))))
    refine wpQuiet_nil ?_
    rintro w1 hw'
    have g1 := gr_elim hw'
    have HB : Hid (Bx w1 w.heap.size p) := (Bx.new w p).below (by simp) g1
    have hl : w.heap.size < w1.heap.size := Nat.lt_of_lt_of_le (by simp) g1.size
    clear hw' hc
    obtain ⟨h0, h1, h2, h3, h4, h5, h6, h7, h8, h9, h10⟩ := HB.out
    go_wp2_with fail
    clear h0 h1 h2 h3 h4 h5 h6 h7 h8 h9 h10
    have hc : ∀ n : GrT w1, Bx n.w w.heap.size p := fun n => HB.out.below hl n.h
    refine wp_region_grow (by kernel_rfl) (by kernel_rfl) ?_
    repeat (go_big_quiet_step (first | (go_at_call 37; exact quiet_gr (rp2 _ _ (by omega) (by omega)))))
    refine wpQuiet_nil ?_
    rintro w2 hw'
    have g2 := gr_elim hw'
    clear hw'
    go_wp2
    go_ret
    exact ⟨rfl, btr (btr (by go_grown) g1 (by simp)) g2 (Nat.le_refl _)⟩
  · rw [if_neg h6, if_neg h17]
    have b6 : (p.pro == 6) = false := by simp [h6]
    clear h17 h6
    go_enter Try.func34, Try.ntmps34
    go_wp2
    have hc : ∀ n : GrT (bx w p), Bx n.w w.heap.size p := fun n => (Bx.new w p).below (by simp) n.h
    refine wp_region_grow (by kernel_rfl) (by kernel_rfl) ?_
    repeat (go_big_quiet_step (first | (go_at_call 37; exact quiet_gr (rp2 _ _ (by omega) (by omega)))))
    refine wpQuiet_nil ?_
    rintro w1 hw'
    have g1 := gr_elim hw'
    have HB : Hid (Bx w1 w.heap.size p) := (Bx.new w p).below (by simp) g1
    clear hw' hc
    obtain ⟨h0, h1, h2, h3, h4, h5, h6, h7, h8, h9, h10⟩ := HB.out
    go_wp2
    go_ret
    exact ⟨rfl, btr (by go_grown) g1 (by simp)⟩
end Go.Proofs.Ytldbbbhoemnlmaa
