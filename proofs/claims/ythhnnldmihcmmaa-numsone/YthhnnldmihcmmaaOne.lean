/-
  The law NumsOne's walk.
-/
import Derived.Test.YthhnnldmihcmmaaPut
namespace Go.Proofs.Ythhnnldmihcmmaa
open Go.ChangeShapes Go.WideShapes Go.ChangeAt Go.RowKit

theorem two (n : Int) (w : World) (h0 : 0 ≤ n) (h1 : n ≤ 65535) :
    Calls Try.prog 8 #[.int .u64 n, .int .i64 2] w fun e w' => e = .returned (.tuple #[.string (strOfNums [n / 256, n % 256]), .int .i64 0]) ∧ Below w.heap.size w w' := by
  have := put_2 n w h0 (by omega)
  rwa [← p2 n h0 (by omega)] at this
theorem four (a b n : Int) (w : World) (ha0 : 0 ≤ a) (ha1 : a ≤ 65535) (hb0 : 0 ≤ b) (hb1 : b ≤ 65535) (hn : n = 65536 * a + b) :
    Calls Try.prog 8 #[.int .u64 n, .int .i64 4] w fun e w' => e = .returned (.tuple #[.string (strOfNums [a / 256, a % 256, b / 256, b % 256]), .int .i64 0]) ∧ Below w.heap.size w w' := by
  have := put_4 n w (by omega) (by omega)
  rw [← p4 n (by omega) (by omega)] at this
  have e : [n / 16777216, n / 65536 % 256, n / 256 % 256, n % 256] = [a / 256, a % 256, b / 256, b % 256] := by simp; omega
  rwa [e] at this

theorem str_add (xs ys : List Int) : strOfNums xs ++ strOfNums ys = strOfNums (xs ++ ys) := by
  apply ByteArray.ext; simp [strOfNums]
theorem at0 (x y : Int) (h0 : 0 ≤ x) (h1 : x < 256) : ∀ h, (((strOfNums [x, y])[0]'h).toNat : Int) = x := by
  intro h
  show ((UInt8.ofNat x.toNat).toNat : Int) = x
  rw [UInt8.toNat_ofNat']; omega
theorem at1 (x y : Int) (h0 : 0 ≤ y) (h1 : y < 256) : ∀ h, (((strOfNums [x, y])[1]'h).toNat : Int) = y := by
  intro h
  show ((UInt8.ofNat y.toNat).toNat : Int) = y
  rw [UInt8.toNat_ofNat']; omega

set_option maxHeartbeats 1000000 in
theorem one_out (a b : Int) (w : World) (h : a < 0 ∨ 65535 < a ∨ b < 0 ∨ 65535 < b) :
    Calls Try.prog 6 #[.int .i64 a, .int .i64 b] w fun e w' => e = .returned (.bool true) ∧ Below w.heap.size w w' := by
  by_cases h1 : a < 0
  · clear h
    go_enter Try.func6, Try.ntmps6
    go_wp2_with (go_at_call 10; refine (awake_any _).mono ?_; rintro e w' ⟨rfl, g1⟩)
    go_ret
    exact ⟨rfl, by assumption⟩
  by_cases h2 : 65535 < a
  · clear h
    go_enter Try.func6, Try.ntmps6
    go_wp2_with (go_at_call 10; refine (awake_any _).mono ?_; rintro e w' ⟨rfl, g1⟩)
    go_ret
    exact ⟨rfl, by assumption⟩
  by_cases h3 : b < 0
  · clear h
    go_enter Try.func6, Try.ntmps6
    go_wp2_with (go_at_call 10; refine (awake_any _).mono ?_; rintro e w' ⟨rfl, g1⟩)
    go_ret
    exact ⟨rfl, by assumption⟩
  · have h4 : 65535 < b := by omega
    clear h
    go_enter Try.func6, Try.ntmps6
    go_wp2_with (go_at_call 10; refine (awake_any _).mono ?_; rintro e w' ⟨rfl, g1⟩)
    go_ret
    exact ⟨rfl, by assumption⟩

set_option maxHeartbeats 400000 in
theorem one_in (a b : Int) (w : World) (ha0 : 0 ≤ a) (ha1 : a ≤ 65535) (hb0 : 0 ≤ b) (hb1 : b ≤ 65535) :
    Calls Try.prog 6 #[.int .i64 a, .int .i64 b] w fun e w' => e = .returned (.bool true) ∧ Below w.heap.size w w' := by
  have e1 := str_add [a / 256, a % 256] [b / 256, b % 256]
  have e2 := at0 (a / 256) (a % 256) (by omega) (by omega)
  have e3 := at1 (a / 256) (a % 256) (by omega) (by omega)
  have e4 := strOfNums_size [a / 256, a % 256]
  have e5 := strOfNums_size [b / 256, b % 256]
  simp only [List.cons_append, List.nil_append, List.length_cons, List.length_nil, Nat.reduceAdd] at e1 e4 e5
  go_enter Try.func6, Try.ntmps6
  go_wp2_with fail
  refine (two _ _ ha0 ha1).mono ?_
  rintro e w1 ⟨rfl, g1⟩
  go_wp2_with fail
  refine (two _ _ hb0 hb1).mono ?_
  rintro e w2 ⟨rfl, g2⟩
  go_wp2_with fail
  refine (four a b _ _ ha0 ha1 hb0 hb1 (by omega)).mono ?_
  rintro e w3 ⟨rfl, g3⟩
  go_wp2_with fail
  refine (awake_any _).mono ?_
  rintro e w4 ⟨rfl, g4⟩
  go_wp2_with fail
  go_ret
  exact ⟨rfl, btrans (btrans (btrans g1 g2) g3) g4⟩

theorem one_walk (a b : Int) (w : World) (_ : (Lit.int .i64 a).wf = true) (_ : (Lit.int .i64 b).wf = true) :
    Calls Try.prog 6 #[.int .i64 a, .int .i64 b] w fun e w' => e = .returned (.bool true) ∧ Below w.heap.size w w' := by
  by_cases h : 0 ≤ a ∧ a ≤ 65535 ∧ 0 ≤ b ∧ b ≤ 65535
  · exact one_in a b w h.1 h.2.1 h.2.2.1 h.2.2.2
  · exact one_out a b w (by omega)
end Go.Proofs.Ythhnnldmihcmmaa
