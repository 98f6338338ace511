/-
  What nums.Put and act.put answer of numbers that fit, as contracts.
-/
import Derived.Test.YtjjfhibkcngphaaGreatDoorTab
namespace Go.Proofs.YtjjfhibkcngphaaGreatDoor
open Go.ChangeShapes Go.WideShapes Go.ChangeAt Go.RowKit

theorem infoB : (Tryz.prog.info? 5).map (fun i => (i.zero, i.size, i.bytes)) = some (some (.int .u8 0), 1, 1) := by kernel_rfl
theorem mkAny (k : Nat) (w : World) (hk : k ≤ 8) : (Instr.makeSlice 111 (.int .i64 k) (.int .i64 k)).run Tryz.prog w = .ok (.slice (some ⟨w.heap.size, 0, none⟩) k k) (w.alloc (.cells (List.replicate k (.int .u8 0)).toArray 5)) := by
  obtain ⟨i0, hi, hz0, hz1, hz2⟩ := info_parts infoB
  rw [run_make w 111 5 i0 _ Tryz.underlying111 hi hz0 .i64 .i64 k k (by omega) (by omega) (by rw [hz2]; omega) (by omega), hz1]
  have e : madeCells (Value.int .u8 0).cells (Int.toNat (k : Int) * 1) = (List.replicate k (Value.int .u8 0)).toArray := by
    apply Array.ext <;> simp [madeCells, Value.cells, Nat.mod_one]
  rw [e, Int.toNat_natCast]
theorem cvAny (k : Nat) (xs : List Int) (h : xs.length = k) (w : World) :
    (convert 111 9 (.slice (some ⟨w.heap.size, 0, none⟩) k k)).run Tryz.prog (w.alloc (.cells (xs.map (Value.int .u8)).toArray 5)) = .ok (.string (strOfNums xs)) (w.alloc (.cells (xs.map (Value.int .u8)).toArray 5)) := by
  refine run_convert_bytes_arg _ 111 5 Tryz.underlying111 Tryz.underlying5 w.heap.size 0 k k xs h (fun i hi => ?_) 9 Tryz.underlying9
  have hi' : i < xs.length := by omega
  simp [List.getElem?_eq_getElem hi']
set_option maxHeartbeats 400000 in
theorem isSize_any (n : Int) (w : World) :
    Calls Tryz.prog 108 #[.int .i64 n] w fun e w' => e = .returned (.bool (szB n)) ∧ w' = w := by
  unfold szB
  by_cases h1 : 1 ≤ n <;> by_cases h2 : n ≤ 8 <;>
  · go_enter Tryz.func108, Tryz.ntmps108
    go_wp2
    go_ret
    simp [h1, h2]

theorem mk1 (w : World) : (Instr.makeSlice 111 (.int .i64 1) (.int .i64 1)).run Tryz.prog w = .ok (.slice (some ⟨w.heap.size, 0, none⟩) 1 1) (w.alloc (.cells #[.int .u8 0] 5)) := mkAny 1 w (by omega)
theorem cv1 (a : Int) (w : World) : (convert 111 9 (.slice (some ⟨w.heap.size, 0, none⟩) 1 1)).run Tryz.prog (w.alloc (.cells #[.int .u8 a] 5)) = .ok (.string (strOfNums [a])) (w.alloc (.cells #[.int .u8 a] 5)) := cvAny 1 [a] rfl w
theorem p1 (n : Int) (h0 : 0 ≤ n) (h1 : n < 256) : [n] = pieces n 1 := by simp [pieces]; omega
set_option maxHeartbeats 1000000 in
theorem put_1 (n : Int) (w : World) (h0 : 0 ≤ n) (h1 : n < 256) :
    Calls Tryz.prog 98 #[.int .u64 n, .int .i64 1] w fun e w' => e = .returned (.tuple #[.string (strOfNums (pieces n 1)), .int .i64 0]) ∧ Below w.heap.size w w' := by
  have hm := mk1
  have hc := cv1
  have hn : (n / 256 != 0) = false := by rw [Int.ediv_eq_zero_of_lt h0 h1]; rfl
  go_enter Tryz.func98, Tryz.ntmps98
  go_wp2
  go_rounds 2
  go_ret2
  rw [← p1 n h0 h1]
  exact ⟨rfl, by go_grown⟩
theorem mput1 (n : Int) (w : World) (h0 : 0 ≤ n) (h1 : n < 256) : Calls Tryz.prog 89 #[.int .u64 n, .int .i64 1] w fun e w' => e = .returned (.string (pb n 1)) ∧ Below w.heap.size w w' := by
  go_enter Tryz.func89, Tryz.ntmps89
  go_wp2_with fail
  refine (put_1 n _ h0 h1).mono ?_
  rintro x w1 ⟨rfl, g⟩
  go_wp2_with fail
  go_ret
  exact ⟨rfl, g⟩

theorem mk2 (w : World) : (Instr.makeSlice 111 (.int .i64 2) (.int .i64 2)).run Tryz.prog w = .ok (.slice (some ⟨w.heap.size, 0, none⟩) 2 2) (w.alloc (.cells #[.int .u8 0, .int .u8 0] 5)) := mkAny 2 w (by omega)
theorem cv2 (a b : Int) (w : World) : (convert 111 9 (.slice (some ⟨w.heap.size, 0, none⟩) 2 2)).run Tryz.prog (w.alloc (.cells #[.int .u8 a, .int .u8 b] 5)) = .ok (.string (strOfNums [a, b])) (w.alloc (.cells #[.int .u8 a, .int .u8 b] 5)) := cvAny 2 [a, b] rfl w
theorem p2 (n : Int) (h0 : 0 ≤ n) (h1 : n < 65536) : [n / 256, n % 256] = pieces n 2 := by simp [pieces]; omega
set_option maxHeartbeats 1000000 in
theorem put_2 (n : Int) (w : World) (h0 : 0 ≤ n) (h1 : n < 65536) :
    Calls Tryz.prog 98 #[.int .u64 n, .int .i64 2] w fun e w' => e = .returned (.tuple #[.string (strOfNums (pieces n 2)), .int .i64 0]) ∧ Below w.heap.size w w' := by
  have hm := mk2
  have hc := cv2
  have hn : (n / 65536 != 0) = false := by rw [Int.ediv_eq_zero_of_lt h0 h1]; rfl
  go_enter Tryz.func98, Tryz.ntmps98
  go_wp2
  go_rounds 3
  go_ret2
  rw [← p2 n h0 h1]
  exact ⟨rfl, by go_grown⟩
theorem mput2 (n : Int) (w : World) (h0 : 0 ≤ n) (h1 : n < 65536) : Calls Tryz.prog 89 #[.int .u64 n, .int .i64 2] w fun e w' => e = .returned (.string (pb n 2)) ∧ Below w.heap.size w w' := by
  go_enter Tryz.func89, Tryz.ntmps89
  go_wp2_with fail
  refine (put_2 n _ h0 h1).mono ?_
  rintro x w1 ⟨rfl, g⟩
  go_wp2_with fail
  go_ret
  exact ⟨rfl, g⟩

theorem mk4 (w : World) : (Instr.makeSlice 111 (.int .i64 4) (.int .i64 4)).run Tryz.prog w = .ok (.slice (some ⟨w.heap.size, 0, none⟩) 4 4) (w.alloc (.cells #[.int .u8 0, .int .u8 0, .int .u8 0, .int .u8 0] 5)) := mkAny 4 w (by omega)
theorem cv4 (a b c d : Int) (w : World) : (convert 111 9 (.slice (some ⟨w.heap.size, 0, none⟩) 4 4)).run Tryz.prog (w.alloc (.cells #[.int .u8 a, .int .u8 b, .int .u8 c, .int .u8 d] 5)) = .ok (.string (strOfNums [a, b, c, d])) (w.alloc (.cells #[.int .u8 a, .int .u8 b, .int .u8 c, .int .u8 d] 5)) := cvAny 4 [a, b, c, d] rfl w
theorem p4 (n : Int) (h0 : 0 ≤ n) (h1 : n < 4294967296) : [n / 16777216, n / 65536 % 256, n / 256 % 256, n % 256] = pieces n 4 := by simp [pieces]; omega
set_option maxHeartbeats 1000000 in
theorem put_4 (n : Int) (w : World) (h0 : 0 ≤ n) (h1 : n < 4294967296) :
    Calls Tryz.prog 98 #[.int .u64 n, .int .i64 4] w fun e w' => e = .returned (.tuple #[.string (strOfNums (pieces n 4)), .int .i64 0]) ∧ Below w.heap.size w w' := by
  have hm := mk4
  have hc := cv4
  have hn : (n / 4294967296 != 0) = false := by rw [Int.ediv_eq_zero_of_lt h0 h1]; rfl
  go_enter Tryz.func98, Tryz.ntmps98
  go_wp2
  go_rounds 5
  go_ret2
  rw [← p4 n h0 h1]
  exact ⟨rfl, by go_grown⟩
theorem mput4 (n : Int) (w : World) (h0 : 0 ≤ n) (h1 : n < 4294967296) : Calls Tryz.prog 89 #[.int .u64 n, .int .i64 4] w fun e w' => e = .returned (.string (pb n 4)) ∧ Below w.heap.size w w' := by
  go_enter Tryz.func89, Tryz.ntmps89
  go_wp2_with fail
  refine (put_4 n _ h0 h1).mono ?_
  rintro x w1 ⟨rfl, g⟩
  go_wp2_with fail
  go_ret
  exact ⟨rfl, g⟩

theorem mk8 (w : World) : (Instr.makeSlice 111 (.int .i64 8) (.int .i64 8)).run Tryz.prog w = .ok (.slice (some ⟨w.heap.size, 0, none⟩) 8 8) (w.alloc (.cells #[.int .u8 0, .int .u8 0, .int .u8 0, .int .u8 0, .int .u8 0, .int .u8 0, .int .u8 0, .int .u8 0] 5)) := mkAny 8 w (by omega)
theorem cv8 (a b c d e f g h : Int) (w : World) : (convert 111 9 (.slice (some ⟨w.heap.size, 0, none⟩) 8 8)).run Tryz.prog (w.alloc (.cells #[.int .u8 a, .int .u8 b, .int .u8 c, .int .u8 d, .int .u8 e, .int .u8 f, .int .u8 g, .int .u8 h] 5)) = .ok (.string (strOfNums [a, b, c, d, e, f, g, h])) (w.alloc (.cells #[.int .u8 a, .int .u8 b, .int .u8 c, .int .u8 d, .int .u8 e, .int .u8 f, .int .u8 g, .int .u8 h] 5)) := cvAny 8 [a, b, c, d, e, f, g, h] rfl w
theorem p8 (n : Int) (h0 : 0 ≤ n) (h1 : n < 18446744073709551616) : [n / 72057594037927936, n / 281474976710656 % 256, n / 1099511627776 % 256, n / 4294967296 % 256, n / 16777216 % 256, n / 65536 % 256, n / 256 % 256, n % 256] = pieces n 8 := by simp [pieces]; omega
set_option maxHeartbeats 1000000 in
theorem put_8 (n : Int) (w : World) (h0 : 0 ≤ n) (h1 : n < 18446744073709551616) :
    Calls Tryz.prog 98 #[.int .u64 n, .int .i64 8] w fun e w' => e = .returned (.tuple #[.string (strOfNums (pieces n 8)), .int .i64 0]) ∧ Below w.heap.size w w' := by
  have hm := mk8
  have hc := cv8
  have hn : (n / 18446744073709551616 != 0) = false := by rw [Int.ediv_eq_zero_of_lt h0 h1]; rfl
  go_enter Tryz.func98, Tryz.ntmps98
  go_wp2
  go_rounds 9
  go_ret2
  rw [← p8 n h0 h1]
  exact ⟨rfl, by go_grown⟩
theorem mput8 (n : Int) (w : World) (h0 : 0 ≤ n) (h1 : n < 18446744073709551616) : Calls Tryz.prog 89 #[.int .u64 n, .int .i64 8] w fun e w' => e = .returned (.string (pb n 8)) ∧ Below w.heap.size w w' := by
  go_enter Tryz.func89, Tryz.ntmps89
  go_wp2_with fail
  refine (put_8 n _ h0 h1).mono ?_
  rintro x w1 ⟨rfl, g⟩
  go_wp2_with fail
  go_ret
  exact ⟨rfl, g⟩

theorem mput_any (n : Int) (f : Int) (w : World) (hf : ¬ (f < 1 ∨ 9 < f)) (h0 : 0 ≤ n) (h1 : n ≤ grV f) : Calls Tryz.prog 89 #[.int .u64 n, .int .i64 (szV f)] w fun e w' => e = .returned (.string (pb n (szV f))) ∧ Below w.heap.size w w' := by
  have h2 := Int.lt_of_le_of_lt h1 (gr_pow hf)
  rcases cls9 hf with rfl | rfl | rfl | rfl | rfl | rfl | rfl | rfl | rfl
  · exact mput4 n w h0 h2
  · exact mput8 n w h0 h2
  · exact mput2 n w h0 h2
  · exact mput2 n w h0 h2
  · exact mput4 n w h0 h2
  · exact mput4 n w h0 h2
  · exact mput1 n w h0 h2
  · exact mput2 n w h0 h2
  · exact mput2 n w h0 h2
end Go.Proofs.YtjjfhibkcngphaaGreatDoor
