/-
  What 'nums.Put' does: the number's bytes, or ErrArg; what the examples' function 'awake' answers: true.
-/
import Derived.Test.YthhnnldmihcmmaaRows
import Derived.WalkKit
import Derived.ProofKit
import Derived.OpenShut
import Derived.Handy
import Derived.Laws.BytesArg
namespace Go.Proofs.Ythhnnldmihcmmaa
open Go.ChangeShapes Go.WideShapes Go.ChangeAt Go.RowKit

theorem Try.info5 : (Try.prog.info? 5).map (fun i => (i.zero, i.size, i.bytes)) = some (some (.int .u8 0), 1, 1) := by kernel_rfl

theorem mkAny (k : Nat) (w : World) (hk : k ≤ 8) : (Instr.makeSlice 44 (.int .i64 k) (.int .i64 k)).run Try.prog w = .ok (.slice (some ⟨w.heap.size, 0, none⟩) k k) (w.alloc (.cells (List.replicate k (.int .u8 0)).toArray 5)) := by
  obtain ⟨i0, hi, hz0, hz1, hz2⟩ := info_parts Try.info5
  rw [run_make w 44 5 i0 _ Try.underlying44 hi hz0 .i64 .i64 k k (by omega) (by omega) (by rw [hz2]; omega) (by omega), hz1]
  have e : madeCells (Value.int .u8 0).cells (Int.toNat (k : Int) * 1) = (List.replicate k (Value.int .u8 0)).toArray := by
    apply Array.ext <;> simp [madeCells, Value.cells, Nat.mod_one]
  rw [e, Int.toNat_natCast]

theorem cvAny (k : Nat) (xs : List Int) (h : xs.length = k) (w : World) :
    (convert 44 9 (.slice (some ⟨w.heap.size, 0, none⟩) k k)).run Try.prog (w.alloc (.cells (xs.map (Value.int .u8)).toArray 5)) = .ok (.string (strOfNums xs)) (w.alloc (.cells (xs.map (Value.int .u8)).toArray 5)) := by
  refine run_convert_bytes_arg _ 44 5 Try.underlying44 Try.underlying5 w.heap.size 0 k k xs h (fun i hi => ?_) 9 Try.underlying9
  have hi' : i < xs.length := by omega
  simp [List.getElem?_eq_getElem hi']

theorem btrans {a b c : World} (h : Below a.heap.size a b) (k : Below b.heap.size b c) : Below a.heap.size a c := h.trans (k.mono h.size)

/-- A number's last k bytes, the highest one first. -/
def pieces (n : Int) : Nat → List Int
  | 0 => []
  | k + 1 => pieces (n / 256) k ++ [n % 256]

def szB (n : Int) : Bool := decide (1 ≤ n) && decide (n ≤ 8)
set_option maxHeartbeats 400000 in
theorem isSize_any (n : Int) (w : World) :
    Calls Try.prog 20 #[.int .i64 n] w fun e w' => e = .returned (.bool (szB n)) ∧ w' = w := by
  unfold szB
  by_cases h1 : 1 ≤ n <;> by_cases h2 : n ≤ 8 <;>
  · go_enter Try.func20, Try.ntmps20
    go_wp2
    go_ret
    simp [h1, h2]


theorem mk1 (w : World) : (Instr.makeSlice 44 (.int .i64 1) (.int .i64 1)).run Try.prog w = .ok (.slice (some ⟨w.heap.size, 0, none⟩) 1 1) (w.alloc (.cells #[.int .u8 0] 5)) := mkAny 1 w (by omega)
theorem cv1 (a : Int) (w : World) : (convert 44 9 (.slice (some ⟨w.heap.size, 0, none⟩) 1 1)).run Try.prog (w.alloc (.cells #[.int .u8 a] 5)) = .ok (.string (strOfNums [a])) (w.alloc (.cells #[.int .u8 a] 5)) := cvAny 1 [a] rfl w
theorem p1 (n : Int) (h0 : 0 ≤ n) (h1 : n < 256) : [n] = pieces n 1 := by simp [pieces]; omega
set_option maxHeartbeats 400000 in
theorem put_1 (n : Int) (w : World) (h0 : 0 ≤ n) (h1 : n < 256) :
    Calls Try.prog 8 #[.int .u64 n, .int .i64 1] w fun e w' => e = .returned (.tuple #[.string (strOfNums (pieces n 1)), .int .i64 0]) ∧ Below w.heap.size w w' := by
  have hm := mk1
  have hc := cv1
  have hn : (n / 256 != 0) = false := by rw [Int.ediv_eq_zero_of_lt h0 h1]; rfl
  go_enter Try.func8, Try.ntmps8
  go_wp2
  go_rounds 2
  go_ret2
  rw [← p1 n h0 h1]
  exact ⟨rfl, by go_grown⟩

theorem mk2 (w : World) : (Instr.makeSlice 44 (.int .i64 2) (.int .i64 2)).run Try.prog w = .ok (.slice (some ⟨w.heap.size, 0, none⟩) 2 2) (w.alloc (.cells #[.int .u8 0, .int .u8 0] 5)) := mkAny 2 w (by omega)
theorem cv2 (a b : Int) (w : World) : (convert 44 9 (.slice (some ⟨w.heap.size, 0, none⟩) 2 2)).run Try.prog (w.alloc (.cells #[.int .u8 a, .int .u8 b] 5)) = .ok (.string (strOfNums [a, b])) (w.alloc (.cells #[.int .u8 a, .int .u8 b] 5)) := cvAny 2 [a, b] rfl w
theorem p2 (n : Int) (h0 : 0 ≤ n) (h1 : n < 65536) : [n / 256, n % 256] = pieces n 2 := by simp [pieces]; omega
set_option maxHeartbeats 400000 in
theorem put_2 (n : Int) (w : World) (h0 : 0 ≤ n) (h1 : n < 65536) :
    Calls Try.prog 8 #[.int .u64 n, .int .i64 2] w fun e w' => e = .returned (.tuple #[.string (strOfNums (pieces n 2)), .int .i64 0]) ∧ Below w.heap.size w w' := by
  have hm := mk2
  have hc := cv2
  have hn : (n / 65536 != 0) = false := by rw [Int.ediv_eq_zero_of_lt h0 h1]; rfl
  go_enter Try.func8, Try.ntmps8
  go_wp2
  go_rounds 3
  go_ret2
  rw [← p2 n h0 h1]
  exact ⟨rfl, by go_grown⟩

theorem mk3 (w : World) : (Instr.makeSlice 44 (.int .i64 3) (.int .i64 3)).run Try.prog w = .ok (.slice (some ⟨w.heap.size, 0, none⟩) 3 3) (w.alloc (.cells #[.int .u8 0, .int .u8 0, .int .u8 0] 5)) := mkAny 3 w (by omega)
theorem cv3 (a b c : Int) (w : World) : (convert 44 9 (.slice (some ⟨w.heap.size, 0, none⟩) 3 3)).run Try.prog (w.alloc (.cells #[.int .u8 a, .int .u8 b, .int .u8 c] 5)) = .ok (.string (strOfNums [a, b, c])) (w.alloc (.cells #[.int .u8 a, .int .u8 b, .int .u8 c] 5)) := cvAny 3 [a, b, c] rfl w
theorem p3 (n : Int) (h0 : 0 ≤ n) (h1 : n < 16777216) : [n / 65536, n / 256 % 256, n % 256] = pieces n 3 := by simp [pieces]; omega
set_option maxHeartbeats 400000 in
theorem put_3 (n : Int) (w : World) (h0 : 0 ≤ n) (h1 : n < 16777216) :
    Calls Try.prog 8 #[.int .u64 n, .int .i64 3] w fun e w' => e = .returned (.tuple #[.string (strOfNums (pieces n 3)), .int .i64 0]) ∧ Below w.heap.size w w' := by
  have hm := mk3
  have hc := cv3
  have hn : (n / 16777216 != 0) = false := by rw [Int.ediv_eq_zero_of_lt h0 h1]; rfl
  go_enter Try.func8, Try.ntmps8
  go_wp2
  go_rounds 4
  go_ret2
  rw [← p3 n h0 h1]
  exact ⟨rfl, by go_grown⟩

theorem mk4 (w : World) : (Instr.makeSlice 44 (.int .i64 4) (.int .i64 4)).run Try.prog w = .ok (.slice (some ⟨w.heap.size, 0, none⟩) 4 4) (w.alloc (.cells #[.int .u8 0, .int .u8 0, .int .u8 0, .int .u8 0] 5)) := mkAny 4 w (by omega)
theorem cv4 (a b c d : Int) (w : World) : (convert 44 9 (.slice (some ⟨w.heap.size, 0, none⟩) 4 4)).run Try.prog (w.alloc (.cells #[.int .u8 a, .int .u8 b, .int .u8 c, .int .u8 d] 5)) = .ok (.string (strOfNums [a, b, c, d])) (w.alloc (.cells #[.int .u8 a, .int .u8 b, .int .u8 c, .int .u8 d] 5)) := cvAny 4 [a, b, c, d] rfl w
theorem p4 (n : Int) (h0 : 0 ≤ n) (h1 : n < 4294967296) : [n / 16777216, n / 65536 % 256, n / 256 % 256, n % 256] = pieces n 4 := by simp [pieces]; omega
set_option maxHeartbeats 400000 in
theorem put_4 (n : Int) (w : World) (h0 : 0 ≤ n) (h1 : n < 4294967296) :
    Calls Try.prog 8 #[.int .u64 n, .int .i64 4] w fun e w' => e = .returned (.tuple #[.string (strOfNums (pieces n 4)), .int .i64 0]) ∧ Below w.heap.size w w' := by
  have hm := mk4
  have hc := cv4
  have hn : (n / 4294967296 != 0) = false := by rw [Int.ediv_eq_zero_of_lt h0 h1]; rfl
  go_enter Try.func8, Try.ntmps8
  go_wp2
  go_rounds 5
  go_ret2
  rw [← p4 n h0 h1]
  exact ⟨rfl, by go_grown⟩

theorem mk5 (w : World) : (Instr.makeSlice 44 (.int .i64 5) (.int .i64 5)).run Try.prog w = .ok (.slice (some ⟨w.heap.size, 0, none⟩) 5 5) (w.alloc (.cells #[.int .u8 0, .int .u8 0, .int .u8 0, .int .u8 0, .int .u8 0] 5)) := mkAny 5 w (by omega)
theorem cv5 (a b c d e : Int) (w : World) : (convert 44 9 (.slice (some ⟨w.heap.size, 0, none⟩) 5 5)).run Try.prog (w.alloc (.cells #[.int .u8 a, .int .u8 b, .int .u8 c, .int .u8 d, .int .u8 e] 5)) = .ok (.string (strOfNums [a, b, c, d, e])) (w.alloc (.cells #[.int .u8 a, .int .u8 b, .int .u8 c, .int .u8 d, .int .u8 e] 5)) := cvAny 5 [a, b, c, d, e] rfl w
theorem p5 (n : Int) (h0 : 0 ≤ n) (h1 : n < 1099511627776) : [n / 4294967296, n / 16777216 % 256, n / 65536 % 256, n / 256 % 256, n % 256] = pieces n 5 := by simp [pieces]; omega
set_option maxHeartbeats 400000 in
theorem put_5 (n : Int) (w : World) (h0 : 0 ≤ n) (h1 : n < 1099511627776) :
    Calls Try.prog 8 #[.int .u64 n, .int .i64 5] w fun e w' => e = .returned (.tuple #[.string (strOfNums (pieces n 5)), .int .i64 0]) ∧ Below w.heap.size w w' := by
  have hm := mk5
  have hc := cv5
  have hn : (n / 1099511627776 != 0) = false := by rw [Int.ediv_eq_zero_of_lt h0 h1]; rfl
  go_enter Try.func8, Try.ntmps8
  go_wp2
  go_rounds 6
  go_ret2
  rw [← p5 n h0 h1]
  exact ⟨rfl, by go_grown⟩

theorem mk6 (w : World) : (Instr.makeSlice 44 (.int .i64 6) (.int .i64 6)).run Try.prog w = .ok (.slice (some ⟨w.heap.size, 0, none⟩) 6 6) (w.alloc (.cells #[.int .u8 0, .int .u8 0, .int .u8 0, .int .u8 0, .int .u8 0, .int .u8 0] 5)) := mkAny 6 w (by omega)
theorem cv6 (a b c d e f : Int) (w : World) : (convert 44 9 (.slice (some ⟨w.heap.size, 0, none⟩) 6 6)).run Try.prog (w.alloc (.cells #[.int .u8 a, .int .u8 b, .int .u8 c, .int .u8 d, .int .u8 e, .int .u8 f] 5)) = .ok (.string (strOfNums [a, b, c, d, e, f])) (w.alloc (.cells #[.int .u8 a, .int .u8 b, .int .u8 c, .int .u8 d, .int .u8 e, .int .u8 f] 5)) := cvAny 6 [a, b, c, d, e, f] rfl w
theorem p6 (n : Int) (h0 : 0 ≤ n) (h1 : n < 281474976710656) : [n / 1099511627776, n / 4294967296 % 256, n / 16777216 % 256, n / 65536 % 256, n / 256 % 256, n % 256] = pieces n 6 := by simp [pieces]; omega
set_option maxHeartbeats 400000 in
theorem put_6 (n : Int) (w : World) (h0 : 0 ≤ n) (h1 : n < 281474976710656) :
    Calls Try.prog 8 #[.int .u64 n, .int .i64 6] w fun e w' => e = .returned (.tuple #[.string (strOfNums (pieces n 6)), .int .i64 0]) ∧ Below w.heap.size w w' := by
  have hm := mk6
  have hc := cv6
  have hn : (n / 281474976710656 != 0) = false := by rw [Int.ediv_eq_zero_of_lt h0 h1]; rfl
  go_enter Try.func8, Try.ntmps8
  go_wp2
  go_rounds 7
  go_ret2
  rw [← p6 n h0 h1]
  exact ⟨rfl, by go_grown⟩

theorem mk7 (w : World) : (Instr.makeSlice 44 (.int .i64 7) (.int .i64 7)).run Try.prog w = .ok (.slice (some ⟨w.heap.size, 0, none⟩) 7 7) (w.alloc (.cells #[.int .u8 0, .int .u8 0, .int .u8 0, .int .u8 0, .int .u8 0, .int .u8 0, .int .u8 0] 5)) := mkAny 7 w (by omega)
theorem cv7 (a b c d e f g : Int) (w : World) : (convert 44 9 (.slice (some ⟨w.heap.size, 0, none⟩) 7 7)).run Try.prog (w.alloc (.cells #[.int .u8 a, .int .u8 b, .int .u8 c, .int .u8 d, .int .u8 e, .int .u8 f, .int .u8 g] 5)) = .ok (.string (strOfNums [a, b, c, d, e, f, g])) (w.alloc (.cells #[.int .u8 a, .int .u8 b, .int .u8 c, .int .u8 d, .int .u8 e, .int .u8 f, .int .u8 g] 5)) := cvAny 7 [a, b, c, d, e, f, g] rfl w
theorem p7 (n : Int) (h0 : 0 ≤ n) (h1 : n < 72057594037927936) : [n / 281474976710656, n / 1099511627776 % 256, n / 4294967296 % 256, n / 16777216 % 256, n / 65536 % 256, n / 256 % 256, n % 256] = pieces n 7 := by simp [pieces]; omega
set_option maxHeartbeats 400000 in
theorem put_7 (n : Int) (w : World) (h0 : 0 ≤ n) (h1 : n < 72057594037927936) :
    Calls Try.prog 8 #[.int .u64 n, .int .i64 7] w fun e w' => e = .returned (.tuple #[.string (strOfNums (pieces n 7)), .int .i64 0]) ∧ Below w.heap.size w w' := by
  have hm := mk7
  have hc := cv7
  have hn : (n / 72057594037927936 != 0) = false := by rw [Int.ediv_eq_zero_of_lt h0 h1]; rfl
  go_enter Try.func8, Try.ntmps8
  go_wp2
  go_rounds 8
  go_ret2
  rw [← p7 n h0 h1]
  exact ⟨rfl, by go_grown⟩

theorem mk8 (w : World) : (Instr.makeSlice 44 (.int .i64 8) (.int .i64 8)).run Try.prog w = .ok (.slice (some ⟨w.heap.size, 0, none⟩) 8 8) (w.alloc (.cells #[.int .u8 0, .int .u8 0, .int .u8 0, .int .u8 0, .int .u8 0, .int .u8 0, .int .u8 0, .int .u8 0] 5)) := mkAny 8 w (by omega)
theorem cv8 (a b c d e f g h : Int) (w : World) : (convert 44 9 (.slice (some ⟨w.heap.size, 0, none⟩) 8 8)).run Try.prog (w.alloc (.cells #[.int .u8 a, .int .u8 b, .int .u8 c, .int .u8 d, .int .u8 e, .int .u8 f, .int .u8 g, .int .u8 h] 5)) = .ok (.string (strOfNums [a, b, c, d, e, f, g, h])) (w.alloc (.cells #[.int .u8 a, .int .u8 b, .int .u8 c, .int .u8 d, .int .u8 e, .int .u8 f, .int .u8 g, .int .u8 h] 5)) := cvAny 8 [a, b, c, d, e, f, g, h] rfl w
theorem p8 (n : Int) (h0 : 0 ≤ n) (h1 : n < 18446744073709551616) : [n / 72057594037927936, n / 281474976710656 % 256, n / 1099511627776 % 256, n / 4294967296 % 256, n / 16777216 % 256, n / 65536 % 256, n / 256 % 256, n % 256] = pieces n 8 := by simp [pieces]; omega
set_option maxHeartbeats 400000 in
theorem put_8 (n : Int) (w : World) (h0 : 0 ≤ n) (h1 : n < 18446744073709551616) :
    Calls Try.prog 8 #[.int .u64 n, .int .i64 8] w fun e w' => e = .returned (.tuple #[.string (strOfNums (pieces n 8)), .int .i64 0]) ∧ Below w.heap.size w w' := by
  have hm := mk8
  have hc := cv8
  have hn : (n / 18446744073709551616 != 0) = false := by rw [Int.ediv_eq_zero_of_lt h0 h1]; rfl
  go_enter Try.func8, Try.ntmps8
  go_wp2
  go_rounds 9
  go_ret2
  rw [← p8 n h0 h1]
  exact ⟨rfl, by go_grown⟩

theorem put_ok (n : Int) (k : Nat) (w : World) (hk1 : 1 ≤ k) (hk8 : k ≤ 8) (h0 : 0 ≤ n) (h1 : n < 256 ^ k) :
    Calls Try.prog 8 #[.int .u64 n, .int .i64 k] w fun e w' => e = .returned (.tuple #[.string (strOfNums (pieces n k)), .int .i64 0]) ∧ Below w.heap.size w w' := by
  have hk : k = 1 ∨ k = 2 ∨ k = 3 ∨ k = 4 ∨ k = 5 ∨ k = 6 ∨ k = 7 ∨ k = 8 := by omega
  rcases hk with rfl | rfl | rfl | rfl | rfl | rfl | rfl | rfl
  · exact put_1 n w h0 h1
  · exact put_2 n w h0 h1
  · exact put_3 n w h0 h1
  · exact put_4 n w h0 h1
  · exact put_5 n w h0 h1
  · exact put_6 n w h0 h1
  · exact put_7 n w h0 h1
  · exact put_8 n w h0 h1

set_option maxHeartbeats 400000 in
theorem put_size (n z : Int) (w : World) (hz : z < 1 ∨ 8 < z) :
    Calls Try.prog 8 #[.int .u64 n, .int .i64 z] w fun e w' => e = .returned (.tuple #[.string ⟨#[]⟩, .int .i64 1]) ∧ Below w.heap.size w w' := by
  have hs : szB z = false := by unfold szB; simp; omega
  go_enter Try.func8, Try.ntmps8
  go_wp2_with (go_at_call 20; refine (isSize_any _ _).mono ?_; rintro e w' ⟨rfl, rfl⟩)
  go_ret2
  exact ⟨rfl, by go_grown⟩

theorem ne_div (n m : Int) (h : ¬ n < m) (hm : 0 < m) : (n / m != 0) = true := by
  have := Int.le_ediv_of_mul_le hm (show 1 * m ≤ n by omega)
  rw [bne_iff_ne]; omega
set_option maxHeartbeats 1000000 in
theorem put_much (n : Int) (k : Nat) (w : World) (hk1 : 1 ≤ k) (hk8 : k ≤ 8) (hb : n < 18446744073709551616) (h1 : ¬ n < 256 ^ k) :
    Calls Try.prog 8 #[.int .u64 n, .int .i64 k] w fun e w' => e = .returned (.tuple #[.string ⟨#[]⟩, .int .i64 1]) ∧ Below w.heap.size w w' := by
  have hk : k = 1 ∨ k = 2 ∨ k = 3 ∨ k = 4 ∨ k = 5 ∨ k = 6 ∨ k = 7 ∨ k = 8 := by omega
  rcases hk with rfl | rfl | rfl | rfl | rfl | rfl | rfl | rfl
  case inr.inr.inr.inr.inr.inr.inr => exact absurd hb h1
  all_goals
    have hn := ne_div n _ h1 (by omega)
    clear h1 hb hk1 hk8
    simp only [Int.reducePow] at hn
    show Calls Try.prog 8 #[.int .u64 n, .int .i64 _] w _
    go_enter Try.func8, Try.ntmps8
    go_wp2
    go_ret2
    exact ⟨rfl, by go_grown⟩

theorem put_258 (w : World) :
    Calls Try.prog 8 #[.int .u64 258, .int .i64 3] w fun e w' => e = .returned (.tuple #[.string ⟨#[0, 1, 2]⟩, .int .i64 0]) ∧ Below w.heap.size w w' :=
  put_3 258 w (by omega) (by omega)
theorem put_256 (w : World) :
    Calls Try.prog 8 #[.int .u64 256, .int .i64 1] w fun e w' => e = .returned (.tuple #[.string ⟨#[]⟩, .int .i64 1]) ∧ Below w.heap.size w w' :=
  put_much 256 1 w (by omega) (by omega) (by omega) (by omega)

set_option maxHeartbeats 400000 in
theorem awake_any (w : World) : Calls Try.prog 10 #[] w fun e w' => e = .returned (.bool true) ∧ Below w.heap.size w w' := by
  go_enter Try.func10, Try.ntmps10
  go_wp2_with fail
  refine (put_258 _).mono ?_
  rintro e w1 ⟨rfl, g1⟩
  go_wp2_with fail
  refine (put_256 _).mono ?_
  rintro e w2 ⟨rfl, g2⟩
  go_wp2_with fail
  go_ret
  exact ⟨rfl, btrans g1 g2⟩
end Go.Proofs.Ythhnnldmihcmmaa
