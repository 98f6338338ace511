/-
  The law NumsBack's walk.
-/
import Derived.Test.YthhnnldmihcmmaaRead
namespace Go.Proofs.Ythhnnldmihcmmaa
open Go.ChangeShapes Go.WideShapes Go.ChangeAt Go.RowKit

set_option maxHeartbeats 400000 in
theorem back_long (n z : Int) (rest : ByteArray) (w : World) (h : 10000 < rest.size) :
    Calls Try.prog 5 #[.int .u64 n, .int .i64 z, .string rest] w fun e w' => e = .returned (.bool true) ∧ Below w.heap.size w w' := by
  go_enter Try.func5, Try.ntmps5
  go_wp2_with fail
  refine (awake_any _).mono ?_
  rintro e w1 ⟨rfl, g1⟩
  go_wp2_with fail
  go_ret
  exact ⟨rfl, g1⟩

set_option maxHeartbeats 400000 in
theorem back_no (n z : Int) (rest : ByteArray) (w : World) (h : rest.size ≤ 10000)
    (hp : ∀ w : World, Calls Try.prog 8 #[.int .u64 n, .int .i64 z] w fun e w' => e = .returned (.tuple #[.string ⟨#[]⟩, .int .i64 1]) ∧ Below w.heap.size w w') :
    Calls Try.prog 5 #[.int .u64 n, .int .i64 z, .string rest] w fun e w' => e = .returned (.bool true) ∧ Below w.heap.size w w' := by
  have HP : Hid (∀ w : World, Calls Try.prog 8 #[.int .u64 n, .int .i64 z] w fun e w' => e = .returned (.tuple #[.string ⟨#[]⟩, .int .i64 1]) ∧ Below w.heap.size w w') := hp
  clear hp
  go_enter Try.func5, Try.ntmps5
  go_wp2_with fail
  refine (HP.out _).mono ?_
  rintro e w1 ⟨rfl, g1⟩
  go_wp2_with fail
  refine (awake_any _).mono ?_
  rintro e w2 ⟨rfl, g2⟩
  go_wp2_with fail
  go_ret
  exact ⟨rfl, btrans g1 g2⟩

theorem noB_add (q : ByteArray) : q ++ noB = q := by apply ByteArray.ext; simp [noB]
theorem take_head (p q : ByteArray) : (p ++ q).extract 0 p.size = p := ByteArray.extract_append_eq_left rfl
theorem take_tail (p q : ByteArray) : (p ++ q).extract p.size (p ++ q).size = q := ByteArray.extract_append_eq_right rfl ByteArray.size_append
theorem le_both (p q : ByteArray) : ((p.size : Nat) : Int) ≤ (p ++ q).size := by rw [ByteArray.size_append]; omega
theorem takeV_0 (p q : ByteArray) : takeV (p ++ q) 0 p.size true = p := by
  rw [takeV, if_pos ⟨rfl, rfl, le_both p q⟩, Int.toNat_natCast, take_head]
theorem takeS_0 (p q : ByteArray) : takeS (p ++ q) 0 p.size true = q := by
  rw [takeS, if_pos rfl, if_pos ⟨rfl, le_both p q⟩, Int.toNat_natCast, take_tail]
theorem takeE_0 (p q : ByteArray) : takeE (p ++ q) 0 p.size true = 0 := by
  rw [takeE, if_pos rfl, if_pos rfl, if_pos (le_both p q)]

theorem num_back (b : Nat) (p q : ByteArray) (n : Int) (w : World) (hs : (p ++ q).size ≤ maxLen) (hz : szB p.size = true) (hn : numOf p.data.toList = n) (r : Rd w b (p ++ q) 0) :
    Calls Try.prog 14 #[.pointer (some ⟨b, 0, none⟩), .int .i64 p.size] w fun x w' => x = .returned (.int .u64 n) ∧ Rd w' b q 0 ∧ Only b w w' := by
  have := num_any b (p ++ q) 0 p.size w hs r
  rwa [numV, hz, takeV_0, takeS_0, takeE_0, hn] at this
theorem bytes_all (b : Nat) (q : ByteArray) (w : World) (r : Rd w b q 0) :
    Calls Try.prog 12 #[.pointer (some ⟨b, 0, none⟩), .int .i64 q.size] w fun x w' => x = .returned (.string q) ∧ Rd w' b noB 0 ∧ Only b w w' := by
  have := bytes_any b q 0 q.size w r
  have e : decide (0 ≤ (q.size : Int)) = true := by simp
  have v := takeV_0 q noB
  have s := takeS_0 q noB
  have x := takeE_0 q noB
  rw [noB_add] at v s x
  rwa [e, v, s, x] at this
theorem end_none (b : Nat) (w : World) (r : Rd w b noB 0) :
    Calls Try.prog 18 #[.pointer (some ⟨b, 0, none⟩)] w fun x w' => x = .returned (.int .i64 0) ∧ w' = w := end_any b noB 0 w r

set_option maxHeartbeats 400000 in
theorem back_yes (n : Int) (p : ByteArray) (rest : ByteArray) (w : World) (h : rest.size ≤ 10000) (hk8 : p.size ≤ 8)
    (hp : ∀ w : World, Calls Try.prog 8 #[.int .u64 n, .int .i64 p.size] w fun e w' => e = .returned (.tuple #[.string p, .int .i64 0]) ∧ Below w.heap.size w w')
    (hn : numOf p.data.toList = n) (hz : szB (p.size : Int) = true) :
    Calls Try.prog 5 #[.int .u64 n, .int .i64 p.size, .string rest] w fun e w' => e = .returned (.bool true) ∧ Below w.heap.size w w' := by
  have HP := hp
  replace HP : Hid (∀ w : World, Calls Try.prog 8 #[.int .u64 n, .int .i64 p.size] w fun e w' => e = .returned (.tuple #[.string p, .int .i64 0]) ∧ Below w.heap.size w w') := HP
  have HN : Hid (numOf p.data.toList = n) := hn
  have HZ : Hid (szB (p.size : Int) = true) := hz
  have HS : Hid ((p ++ rest).size ≤ maxLen) := by unfold Hid maxLen; rw [ByteArray.size_append]; omega
  clear hp hn hz
  go_enter Try.func5, Try.ntmps5
  go_wp2_with fail
  refine (HP.out _).mono ?_
  rintro e w1 ⟨rfl, g1⟩
  go_wp2_with fail
  refine (read_any _ _).mono ?_
  rintro e w2 ⟨rfl, rfl⟩
  have r1 := Rd.new w1 (p ++ rest) 0 46
  have g2 : Below w.heap.size w (w1.alloc (.cells #[.string (p ++ rest), .int .i64 0] 46)) := g1.alloc g1.size _
  have hb : w.heap.size ≤ w1.heap.size := g1.size
  generalize w1.alloc (.cells #[.string (p ++ rest), .int .i64 0] 46) = w2 at *
  generalize w1.heap.size = b at *
  go_wp2_with fail
  refine (num_back b p rest n _ HS.out HZ.out HN.out r1).mono ?_
  rintro e w3 ⟨rfl, r3, o3⟩
  go_wp2_with fail
  refine (left_any b rest 0 _ r3).mono ?_
  rintro e w4 ⟨rfl, rfl⟩
  go_wp2_with fail
  refine (bytes_all b rest _ r3).mono ?_
  rintro e w5 ⟨rfl, r5, o5⟩
  go_wp2_with fail
  refine (end_none b _ r5).mono ?_
  rintro e w6 ⟨rfl, rfl⟩
  go_wp2_with fail
  refine (awake_any _).mono ?_
  rintro e w7 ⟨rfl, g7⟩
  go_wp2_with fail
  go_ret
  exact ⟨rfl, btrans (o5.below hb (o3.below hb g2)) g7⟩

theorem wf_u64 {n : Int} (h : (Lit.int .u64 n).wf = true) : 0 ≤ n ∧ n < 18446744073709551616 := by
  have := bounds_u64 h; omega

theorem back_walk (n z : Int) (rest : ByteArray) (w : World) (wn : (Lit.int .u64 n).wf = true) (_ : (Lit.int .i64 z).wf = true) (_ : rest.size ≤ maxLen) :
    Calls Try.prog 5 #[.int .u64 n, .int .i64 z, .string rest] w fun e w' => e = .returned (.bool true) ∧ Below w.heap.size w w' := by
  obtain ⟨h0, hb⟩ := wf_u64 wn
  by_cases hl : 10000 < rest.size
  · exact back_long n z rest w hl
  · have hl' : rest.size ≤ 10000 := by omega
    by_cases hz : 1 ≤ z ∧ z ≤ 8
    · obtain ⟨k, rfl⟩ := Int.eq_ofNat_of_zero_le (show 0 ≤ z by omega)
      by_cases h1 : n < 256 ^ k
      · have hs : (strOfNums (pieces n k)).size = k := by rw [strOfNums_size, pieces_length]
        have := back_yes n (strOfNums (pieces n k)) rest w hl' (by omega) (fun w => by rw [hs]; exact put_ok n k w (by omega) (by omega) h0 h1) (numOf_pieces k n (by omega) h0 h1) (by rw [hs]; unfold szB; simp; omega)
        rwa [hs] at this
      · exact back_no n k rest w hl' (fun w => put_much n k w (by omega) (by omega) hb h1)
    · exact back_no n z rest w hl' (fun w => put_size n z w (by omega))
end Go.Proofs.Ythhnnldmihcmmaa
