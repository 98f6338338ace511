/-
  What bytesOf, body and write answer of right actions, as contracts.
-/
import Derived.Test.YtjjfhibkcngphaaGreatDoorRight
import Derived.Test.YtjjfhibkcngphaaGreatDoorPut
import Derived.Test.YtjjfhibkcngphaaGreatDoorShelf
namespace Go.Proofs.YtjjfhibkcngphaaGreatDoor
open Go.ChangeShapes Go.WideShapes Go.ChangeAt Go.RowKit

set_option maxHeartbeats 1000000 in
theorem bytesOf_any (f : Int) (w : World) : Calls Tryz.prog 99 #[.int .i64 f] w fun e w' => e = .returned (.int .i64 (szV f)) ∧ w' = w := by
  have HW : Hid (∀ w, Calls Tryz.prog 79 #[.int .i64 f] w fun e w' => e = .returned (.int .i64 (wdV f)) ∧ w' = w) := fun w => width_any f w
  have h := szV_eq f
  have hb : 0 ≤ wdV f ∧ wdV f ≤ 64 := by unfold wdV; (repeat' split) <;> omega
  rw [← h]
  clear h
  generalize wdV f = y at *
  obtain ⟨b0, b1⟩ := hb
  go_enter Tryz.func99, Tryz.ntmps99
  go_wp2_with fail
  refine (HW.out _).mono ?_
  rintro x w1 ⟨rfl, rfl⟩
  go_wp2_with fail
  go_ret
  exact ⟨ret_int (by first | rfl | omega), rfl⟩
theorem repeat_list : ∀ c : Nat, Lib.repeatL [0] c = List.replicate c (0 : UInt8)
  | 0 => rfl
  | c + 1 => by rw [Lib.repeatL, repeat_list c]; rfl
theorem repeat_any (c : Nat) (w : World) (hc : c ≤ 1000) : Calls Tryz.prog 91 #[.string ⟨#[0]⟩, .int .i64 c] w fun e w' => e = .returned (.string (zeros c)) ∧ Below w.heap.size w w' := by
  have := Tryz.strings_Repeat ⟨#[0]⟩ c w (by omega) (by show 1 * c ≤ _; omega)
  rw [show (⟨#[0]⟩ : ByteArray).data.toList = [0] from rfl, repeat_list c] at this
  exact this
/-- The bytes behind the head of a Set. -/
abbrev setB (c : Int) (n : Nat) (v : Int) : ByteArray := pb 32768 2 ++ pb (2 * c) 1 ++ pb (n : Int) 1 ++ pb v n
set_option maxHeartbeats 4000000 in
theorem body_set (f v : Int) (n : Nat) (c : Int) (w : World) (hd : Cd w) (hn : szV f = n) (hn4 : n ≤ 8) (hc : codeV f = c) (hc0 : 0 ≤ c) (hc1 : c ≤ 14) (HP : Hid (∀ w, Calls Tryz.prog 89 #[.int .u64 v, .int .i64 n] w fun e w' => e = .returned (.string (pb v n)) ∧ Below w.heap.size w w')) :
    Calls Tryz.prog 90 #[tV (5, f, v)] w fun e w' => e = .returned (.string (setB c n v)) ∧ Below w.heap.size w w' := by
  have HC : Hid (∀ w, Cd w → Calls Tryz.prog 100 #[.int .i64 f] w fun e w' => e = .returned (.int .i64 c) ∧ Below w.heap.size w w') := (show ∀ w, _ from fun w h => hc ▸ codeOf_any f w h)
  have HB : Hid (∀ w, Calls Tryz.prog 99 #[.int .i64 f] w fun e w' => e = .returned (.int .i64 n) ∧ w' = w) := (show ∀ w, _ from fun w => hn ▸ bytesOf_any f w)
  have H1 : Hid (∀ n w, 0 ≤ n → n < 256 → Calls Tryz.prog 89 #[.int .u64 n, .int .i64 1] w fun e w' => e = .returned (.string (pb n 1)) ∧ Below w.heap.size w w') := (show ∀ n w, _ from fun n w h0 h1 => mput1 n w h0 h1)
  have H2 : Hid (∀ w, Calls Tryz.prog 89 #[.int .u64 32768, .int .i64 2] w fun e w' => e = .returned (.string (pb 32768 2)) ∧ Below w.heap.size w w') := (show ∀ w, _ from fun w => mput2 32768 w (by omega) (by omega))
  have HD : Hid (∀ n : GrT (tx w (5, f, v)), Cd n.w) := (show ∀ n : GrT (tx w (5, f, v)), Cd n.w from fun n => (hd.alloc _).below n.h)
  have q := C3.gr1 w (5, f, v)
  have q0 := fun n => (q n).1
  have q1 := fun n => (q n).2.1
  have q2 := fun n => (q n).2.2
  have hps := pb_size
  have hw1 : IntKind.u64.wrap (2 * c) = 2 * c := wraps_u64 _ (by omega) (by omega)
  have hw2 : IntKind.u64.wrap (n : Int) = (n : Int) := wraps_u64 _ (by omega) (by omega)
  clear q hd hn hc
  go_enter Tryz.func90, Tryz.ntmps90
  go_wp2_with fail
  refine (HB.out _).mono ?_
  rintro x w1 ⟨rfl, rfl⟩
  go_wp2_with fail
  refine wp_region_grow (by kernel_rfl) (by kernel_rfl) ?_
  repeat (go_big_quiet_step ((first | (go_at_call 100; exact quiet_gr (HC.out _ (HD.out _))) | (go_at_call_of 89 (Value.int IntKind.i64 2); exact quiet_gr (H2.out _)) | (go_at_call_of 89 (Value.int IntKind.i64 1); exact quiet_gr (H1.out _ _ (by omega) (by omega))) | (go_at_call 89; exact quiet_gr (HP.out _)))))
  refine wpQuiet_nil ?_
  rintro w1 hw'
  have g1 := gr_elim hw'
  clear q0 q1 q2 hw'
  go_wp2_with fail
  go_ret
  exact ⟨rfl, btr (by go_grown) g1 (by simp)⟩
/-- The laying of the head. -/
theorem head_done : True := trivial
set_option maxHeartbeats 4000000 in
set_option maxRecDepth 20000 in
theorem write_1 (f v : Int) (B : ByteArray) (c : Nat) (w : World) (hd : Cd w) (hB : 4 + B.size + c = 16) (HB : Hid (∀ w, Cd w → Calls Tryz.prog 90 #[tV (1, f, v)] w fun e w' => e = .returned (.string B) ∧ Below w.heap.size w w')) :
    Calls Tryz.prog 81 #[tV (1, f, v)] w fun e w' => e = .returned (.string (pb 0 2 ++ pb 16 2 ++ B ++ zeros c)) ∧ Below w.heap.size w w' := by
  have HN : Hid (∀ w, Calls Tryz.prog 89 #[.int .u64 0, .int .i64 2] w fun e w' => e = .returned (.string (pb 0 2)) ∧ Below w.heap.size w w') := (show ∀ w, _ from fun w => mput2 0 w (by omega) (by omega))
  have HZ : Hid (∀ w, Calls Tryz.prog 89 #[.int .u64 16, .int .i64 2] w fun e w' => e = .returned (.string (pb 16 2)) ∧ Below w.heap.size w w') := (show ∀ w, _ from fun w => mput2 16 w (by omega) (by omega))
  have HR : Hid (∀ w, Calls Tryz.prog 91 #[.string ⟨#[0]⟩, .int .i64 c] w fun e w' => e = .returned (.string (zeros c)) ∧ Below w.heap.size w w') := (show ∀ w, _ from fun w => repeat_any c w (by omega))
  have hps := pb_size
  have hBs : B.size ≤ 12 := by omega
  obtain ⟨ct, cfr, hk⟩ := hd.kinds
  have HD : Hid (Cd w) := hd
  have x0 := idk0
  have hk' : (tx w (1, f, v)).heap[0]? = some (.cells kindsA ct cfr) := by
    have := ((Below.refl _ w).alloc (Nat.le_refl _) (.cells (tC (1, f, v)) 79)).block 0 (by have := hd.pos; omega)
    exact this.trans hk
  clear hd hk
  go_enter Tryz.func81, Tryz.ntmps81
  go_wp2_with (refine wpList_load_row rfl 113 (.global 0) rfl 0 rfl ct kindsA cfr _ hk' Tryz.underlying113 rfl (by kernel_rfl) ?_)
  clear hk'
  go_loopw [7] (fun i wr => ∃ j : Int, 0 ≤ j ∧ j ≤ 0 ∧ i = .int .i64 j ∧ C3 wr w.heap.size 0 (1, f, v) ∧ w.heap.size < wr.heap.size ∧ Below w.heap.size w wr) (fun i _ => 0 - (intOf i).toNat)
  case atStart => exact ⟨0, by omega, by omega, rfl, C3.new w (1, f, v), by simp, by go_grown⟩
  case round =>
    obtain ⟨j, hj0, hj, rfl, hc, hlt, hbel⟩ := hrel
    have hj1 : j = 0 := by omega
    subst hj1
    have c0 := hc.1
    have HD2 : Hid (∀ n : GrT (wr.alloc (.cells #[.int .i64 1, .int .i64 0, .int .i64 16] 112)), Cd n.w) := (show ∀ n : GrT (wr.alloc (.cells #[.int .i64 1, .int .i64 0, .int .i64 16] 112)), Cd n.w from fun n => ((HD.out.below hbel).alloc _).below n.h)
    have q := C3.gr (W := (wr.alloc (.cells #[.int .i64 1, .int .i64 0, .int .i64 16] 112))) (hc.below hlt ((Below.refl _ _).alloc (Nat.le_refl _) _)) (by simp; omega)
    have q0 := fun n => (q n).1
    have q1 := fun n => (q n).2.1
    have q2 := fun n => (q n).2.2
    have k1 : ∀ n : GrT (wr.alloc (.cells #[.int .i64 1, .int .i64 0, .int .i64 16] 112)), n.w.cell? ⟨wr.heap.size, 1, none⟩ = some (.int .i64 0) := fun n => (n.h.cell (p := ⟨wr.heap.size, 1, none⟩) (by simp)).trans (by simp)
    have k2 : ∀ n : GrT (wr.alloc (.cells #[.int .i64 1, .int .i64 0, .int .i64 16] 112)), n.w.cell? ⟨wr.heap.size, 2, none⟩ = some (.int .i64 16) := fun n => (n.h.cell (p := ⟨wr.heap.size, 2, none⟩) (by simp)).trans (by simp)
    clear q
    go_wp2_with fail
    refine wp_region_grow (by kernel_rfl) (by kernel_rfl) ?_
    repeat (go_big_quiet_step ((first | (go_at_call 90; exact quiet_gr (HB.out _ (HD2.out _))) | (go_at_call_of 89 (Value.int IntKind.u64 0); exact quiet_gr (HN.out _)) | (go_at_call_of 89 (Value.int IntKind.u64 16); exact quiet_gr (HZ.out _)))))
    refine wpQuiet_nil ?_
    rintro w1 hw'
    have g1 := gr_elim hw'
    have b1 : Below w.heap.size w w1 := btr (hbel.alloc hbel.size _) g1 (Nat.le_refl _)
    have k3 := k2 none
    have k4 := (g1.cell (p := ⟨wr.heap.size, 2, none⟩) (by simp)).trans k3
    clear q0 q1 q2 k1 k2 k3 hw' HD2 hc hbel g1 c0
    have hS : (pb 0 2 ++ pb 16 2 ++ B).size + c = 16 := by rw [ByteArray.size_append, ByteArray.size_append, hps, hps]; omega
    obtain ⟨S, hS0⟩ : ∃ S, pb 0 2 ++ pb 16 2 ++ B = S := ⟨_, rfl⟩
    rw [hS0] at hS ⊢
    have HS0 : Hid (pb 0 2 ++ pb 16 2 ++ B = S) := hS0
    clear hS0
    have hSc : (16 : Int) - (S.size : Int) = (c : Int) := by omega
    have hzs := zeros_size c
    go_wp2_with fail
    refine (HR.out _).mono ?_
    rintro r w2 ⟨rfl, g2⟩
    go_wp2_with fail
    go_ret
    exact ⟨by rw [HS0.out]; rfl, btr b1 g2 (Nat.le_refl _)⟩
set_option maxHeartbeats 4000000 in
set_option maxRecDepth 20000 in
theorem write_2 (f v : Int) (B : ByteArray) (c : Nat) (w : World) (hd : Cd w) (hB : 4 + B.size + c = 8) (HB : Hid (∀ w, Cd w → Calls Tryz.prog 90 #[tV (2, f, v)] w fun e w' => e = .returned (.string B) ∧ Below w.heap.size w w')) :
    Calls Tryz.prog 81 #[tV (2, f, v)] w fun e w' => e = .returned (.string (pb 22 2 ++ pb 8 2 ++ B ++ zeros c)) ∧ Below w.heap.size w w' := by
  have HN : Hid (∀ w, Calls Tryz.prog 89 #[.int .u64 22, .int .i64 2] w fun e w' => e = .returned (.string (pb 22 2)) ∧ Below w.heap.size w w') := (show ∀ w, _ from fun w => mput2 22 w (by omega) (by omega))
  have HZ : Hid (∀ w, Calls Tryz.prog 89 #[.int .u64 8, .int .i64 2] w fun e w' => e = .returned (.string (pb 8 2)) ∧ Below w.heap.size w w') := (show ∀ w, _ from fun w => mput2 8 w (by omega) (by omega))
  have HR : Hid (∀ w, Calls Tryz.prog 91 #[.string ⟨#[0]⟩, .int .i64 c] w fun e w' => e = .returned (.string (zeros c)) ∧ Below w.heap.size w w') := (show ∀ w, _ from fun w => repeat_any c w (by omega))
  have hps := pb_size
  have hBs : B.size ≤ 12 := by omega
  obtain ⟨ct, cfr, hk⟩ := hd.kinds
  have HD : Hid (Cd w) := hd
  have x0 := idk0
  have x1 := idk1
  have hk' : (tx w (2, f, v)).heap[0]? = some (.cells kindsA ct cfr) := by
    have := ((Below.refl _ w).alloc (Nat.le_refl _) (.cells (tC (2, f, v)) 79)).block 0 (by have := hd.pos; omega)
    exact this.trans hk
  clear hd hk
  go_enter Tryz.func81, Tryz.ntmps81
  go_wp2_with (refine wpList_load_row rfl 113 (.global 0) rfl 0 rfl ct kindsA cfr _ hk' Tryz.underlying113 rfl (by kernel_rfl) ?_)
  clear hk'
  go_loopw [7] (fun i wr => ∃ j : Int, 0 ≤ j ∧ j ≤ 1 ∧ i = .int .i64 j ∧ C3 wr w.heap.size 0 (2, f, v) ∧ w.heap.size < wr.heap.size ∧ Below w.heap.size w wr) (fun i _ => 1 - (intOf i).toNat)
  case atStart => exact ⟨0, by omega, by omega, rfl, C3.new w (2, f, v), by simp, by go_grown⟩
  case round =>
    obtain ⟨j, hj0, hj, rfl, hc, hlt, hbel⟩ := hrel
    have hcl : j = 0 ∨ j = 1 := by omega
    rcases hcl with rfl | rfl
    · have c0 := hc.1
      go_wp2_with fail
      go_roundw
      case rel => exact ⟨1, by omega, by omega, by go_num, hc.below hlt ((Below.refl _ _).alloc (Nat.le_refl _) _), by simp; omega, hbel.alloc hbel.size _⟩
      case measure => simp [intOf]
    · have c0 := hc.1
      have HD2 : Hid (∀ n : GrT (wr.alloc (.cells #[.int .i64 2, .int .i64 22, .int .i64 8] 112)), Cd n.w) := (show ∀ n : GrT (wr.alloc (.cells #[.int .i64 2, .int .i64 22, .int .i64 8] 112)), Cd n.w from fun n => ((HD.out.below hbel).alloc _).below n.h)
      have q := C3.gr (W := (wr.alloc (.cells #[.int .i64 2, .int .i64 22, .int .i64 8] 112))) (hc.below hlt ((Below.refl _ _).alloc (Nat.le_refl _) _)) (by simp; omega)
      have q0 := fun n => (q n).1
      have q1 := fun n => (q n).2.1
      have q2 := fun n => (q n).2.2
      have k1 : ∀ n : GrT (wr.alloc (.cells #[.int .i64 2, .int .i64 22, .int .i64 8] 112)), n.w.cell? ⟨wr.heap.size, 1, none⟩ = some (.int .i64 22) := fun n => (n.h.cell (p := ⟨wr.heap.size, 1, none⟩) (by simp)).trans (by simp)
      have k2 : ∀ n : GrT (wr.alloc (.cells #[.int .i64 2, .int .i64 22, .int .i64 8] 112)), n.w.cell? ⟨wr.heap.size, 2, none⟩ = some (.int .i64 8) := fun n => (n.h.cell (p := ⟨wr.heap.size, 2, none⟩) (by simp)).trans (by simp)
      clear q
      go_wp2_with fail
      refine wp_region_grow (by kernel_rfl) (by kernel_rfl) ?_
      repeat (go_big_quiet_step ((first | (go_at_call 90; exact quiet_gr (HB.out _ (HD2.out _))) | (go_at_call_of 89 (Value.int IntKind.u64 22); exact quiet_gr (HN.out _)) | (go_at_call_of 89 (Value.int IntKind.u64 8); exact quiet_gr (HZ.out _)))))
      refine wpQuiet_nil ?_
      rintro w1 hw'
      have g1 := gr_elim hw'
      have b1 : Below w.heap.size w w1 := btr (hbel.alloc hbel.size _) g1 (Nat.le_refl _)
      have k3 := k2 none
      have k4 := (g1.cell (p := ⟨wr.heap.size, 2, none⟩) (by simp)).trans k3
      clear q0 q1 q2 k1 k2 k3 hw' HD2 hc hbel g1 c0
      have hS : (pb 22 2 ++ pb 8 2 ++ B).size + c = 8 := by rw [ByteArray.size_append, ByteArray.size_append, hps, hps]; omega
      obtain ⟨S, hS0⟩ : ∃ S, pb 22 2 ++ pb 8 2 ++ B = S := ⟨_, rfl⟩
      rw [hS0] at hS ⊢
      have HS0 : Hid (pb 22 2 ++ pb 8 2 ++ B = S) := hS0
      clear hS0
      have hSc : (8 : Int) - (S.size : Int) = (c : Int) := by omega
      have hzs := zeros_size c
      go_wp2_with fail
      refine (HR.out _).mono ?_
      rintro r w2 ⟨rfl, g2⟩
      go_wp2_with fail
      go_ret
      exact ⟨by rw [HS0.out]; rfl, btr b1 g2 (Nat.le_refl _)⟩
set_option maxHeartbeats 4000000 in
set_option maxRecDepth 20000 in
theorem write_3 (f v : Int) (B : ByteArray) (c : Nat) (w : World) (hd : Cd w) (hB : 4 + B.size + c = 8) (HB : Hid (∀ w, Cd w → Calls Tryz.prog 90 #[tV (3, f, v)] w fun e w' => e = .returned (.string B) ∧ Below w.heap.size w w')) :
    Calls Tryz.prog 81 #[tV (3, f, v)] w fun e w' => e = .returned (.string (pb 17 2 ++ pb 8 2 ++ B ++ zeros c)) ∧ Below w.heap.size w w' := by
  have HN : Hid (∀ w, Calls Tryz.prog 89 #[.int .u64 17, .int .i64 2] w fun e w' => e = .returned (.string (pb 17 2)) ∧ Below w.heap.size w w') := (show ∀ w, _ from fun w => mput2 17 w (by omega) (by omega))
  have HZ : Hid (∀ w, Calls Tryz.prog 89 #[.int .u64 8, .int .i64 2] w fun e w' => e = .returned (.string (pb 8 2)) ∧ Below w.heap.size w w') := (show ∀ w, _ from fun w => mput2 8 w (by omega) (by omega))
  have HR : Hid (∀ w, Calls Tryz.prog 91 #[.string ⟨#[0]⟩, .int .i64 c] w fun e w' => e = .returned (.string (zeros c)) ∧ Below w.heap.size w w') := (show ∀ w, _ from fun w => repeat_any c w (by omega))
  have hps := pb_size
  have hBs : B.size ≤ 12 := by omega
  obtain ⟨ct, cfr, hk⟩ := hd.kinds
  have HD : Hid (Cd w) := hd
  have x0 := idk0
  have x1 := idk1
  have x2 := idk2
  have hk' : (tx w (3, f, v)).heap[0]? = some (.cells kindsA ct cfr) := by
    have := ((Below.refl _ w).alloc (Nat.le_refl _) (.cells (tC (3, f, v)) 79)).block 0 (by have := hd.pos; omega)
    exact this.trans hk
  clear hd hk
  go_enter Tryz.func81, Tryz.ntmps81
  go_wp2_with (refine wpList_load_row rfl 113 (.global 0) rfl 0 rfl ct kindsA cfr _ hk' Tryz.underlying113 rfl (by kernel_rfl) ?_)
  clear hk'
  go_loopw [7] (fun i wr => ∃ j : Int, 0 ≤ j ∧ j ≤ 2 ∧ i = .int .i64 j ∧ C3 wr w.heap.size 0 (3, f, v) ∧ w.heap.size < wr.heap.size ∧ Below w.heap.size w wr) (fun i _ => 2 - (intOf i).toNat)
  case atStart => exact ⟨0, by omega, by omega, rfl, C3.new w (3, f, v), by simp, by go_grown⟩
  case round =>
    obtain ⟨j, hj0, hj, rfl, hc, hlt, hbel⟩ := hrel
    have hcl : j = 0 ∨ j = 1 ∨ j = 2 := by omega
    rcases hcl with rfl | rfl | rfl
    · have c0 := hc.1
      go_wp2_with fail
      go_roundw
      case rel => exact ⟨1, by omega, by omega, by go_num, hc.below hlt ((Below.refl _ _).alloc (Nat.le_refl _) _), by simp; omega, hbel.alloc hbel.size _⟩
      case measure => simp [intOf]
    · have c0 := hc.1
      go_wp2_with fail
      go_roundw
      case rel => exact ⟨2, by omega, by omega, by go_num, hc.below hlt ((Below.refl _ _).alloc (Nat.le_refl _) _), by simp; omega, hbel.alloc hbel.size _⟩
      case measure => simp [intOf]
    · have c0 := hc.1
      have HD2 : Hid (∀ n : GrT (wr.alloc (.cells #[.int .i64 3, .int .i64 17, .int .i64 8] 112)), Cd n.w) := (show ∀ n : GrT (wr.alloc (.cells #[.int .i64 3, .int .i64 17, .int .i64 8] 112)), Cd n.w from fun n => ((HD.out.below hbel).alloc _).below n.h)
      have q := C3.gr (W := (wr.alloc (.cells #[.int .i64 3, .int .i64 17, .int .i64 8] 112))) (hc.below hlt ((Below.refl _ _).alloc (Nat.le_refl _) _)) (by simp; omega)
      have q0 := fun n => (q n).1
      have q1 := fun n => (q n).2.1
      have q2 := fun n => (q n).2.2
      have k1 : ∀ n : GrT (wr.alloc (.cells #[.int .i64 3, .int .i64 17, .int .i64 8] 112)), n.w.cell? ⟨wr.heap.size, 1, none⟩ = some (.int .i64 17) := fun n => (n.h.cell (p := ⟨wr.heap.size, 1, none⟩) (by simp)).trans (by simp)
      have k2 : ∀ n : GrT (wr.alloc (.cells #[.int .i64 3, .int .i64 17, .int .i64 8] 112)), n.w.cell? ⟨wr.heap.size, 2, none⟩ = some (.int .i64 8) := fun n => (n.h.cell (p := ⟨wr.heap.size, 2, none⟩) (by simp)).trans (by simp)
      clear q
      go_wp2_with fail
      refine wp_region_grow (by kernel_rfl) (by kernel_rfl) ?_
      repeat (go_big_quiet_step ((first | (go_at_call 90; exact quiet_gr (HB.out _ (HD2.out _))) | (go_at_call_of 89 (Value.int IntKind.u64 17); exact quiet_gr (HN.out _)) | (go_at_call_of 89 (Value.int IntKind.u64 8); exact quiet_gr (HZ.out _)))))
      refine wpQuiet_nil ?_
      rintro w1 hw'
      have g1 := gr_elim hw'
      have b1 : Below w.heap.size w w1 := btr (hbel.alloc hbel.size _) g1 (Nat.le_refl _)
      have k3 := k2 none
      have k4 := (g1.cell (p := ⟨wr.heap.size, 2, none⟩) (by simp)).trans k3
      clear q0 q1 q2 k1 k2 k3 hw' HD2 hc hbel g1 c0
      have hS : (pb 17 2 ++ pb 8 2 ++ B).size + c = 8 := by rw [ByteArray.size_append, ByteArray.size_append, hps, hps]; omega
      obtain ⟨S, hS0⟩ : ∃ S, pb 17 2 ++ pb 8 2 ++ B = S := ⟨_, rfl⟩
      rw [hS0] at hS ⊢
      have HS0 : Hid (pb 17 2 ++ pb 8 2 ++ B = S) := hS0
      clear hS0
      have hSc : (8 : Int) - (S.size : Int) = (c : Int) := by omega
      have hzs := zeros_size c
      go_wp2_with fail
      refine (HR.out _).mono ?_
      rintro r w2 ⟨rfl, g2⟩
      go_wp2_with fail
      go_ret
      exact ⟨by rw [HS0.out]; rfl, btr b1 g2 (Nat.le_refl _)⟩
set_option maxHeartbeats 4000000 in
set_option maxRecDepth 20000 in
theorem write_4 (f v : Int) (B : ByteArray) (c : Nat) (w : World) (hd : Cd w) (hB : 4 + B.size + c = 8) (HB : Hid (∀ w, Cd w → Calls Tryz.prog 90 #[tV (4, f, v)] w fun e w' => e = .returned (.string B) ∧ Below w.heap.size w w')) :
    Calls Tryz.prog 81 #[tV (4, f, v)] w fun e w' => e = .returned (.string (pb 18 2 ++ pb 8 2 ++ B ++ zeros c)) ∧ Below w.heap.size w w' := by
  have HN : Hid (∀ w, Calls Tryz.prog 89 #[.int .u64 18, .int .i64 2] w fun e w' => e = .returned (.string (pb 18 2)) ∧ Below w.heap.size w w') := (show ∀ w, _ from fun w => mput2 18 w (by omega) (by omega))
  have HZ : Hid (∀ w, Calls Tryz.prog 89 #[.int .u64 8, .int .i64 2] w fun e w' => e = .returned (.string (pb 8 2)) ∧ Below w.heap.size w w') := (show ∀ w, _ from fun w => mput2 8 w (by omega) (by omega))
  have HR : Hid (∀ w, Calls Tryz.prog 91 #[.string ⟨#[0]⟩, .int .i64 c] w fun e w' => e = .returned (.string (zeros c)) ∧ Below w.heap.size w w') := (show ∀ w, _ from fun w => repeat_any c w (by omega))
  have hps := pb_size
  have hBs : B.size ≤ 12 := by omega
  obtain ⟨ct, cfr, hk⟩ := hd.kinds
  have HD : Hid (Cd w) := hd
  have x0 := idk0
  have x1 := idk1
  have x2 := idk2
  have x3 := idk3
  have hk' : (tx w (4, f, v)).heap[0]? = some (.cells kindsA ct cfr) := by
    have := ((Below.refl _ w).alloc (Nat.le_refl _) (.cells (tC (4, f, v)) 79)).block 0 (by have := hd.pos; omega)
    exact this.trans hk
  clear hd hk
  go_enter Tryz.func81, Tryz.ntmps81
  go_wp2_with (refine wpList_load_row rfl 113 (.global 0) rfl 0 rfl ct kindsA cfr _ hk' Tryz.underlying113 rfl (by kernel_rfl) ?_)
  clear hk'
  go_loopw [7] (fun i wr => ∃ j : Int, 0 ≤ j ∧ j ≤ 3 ∧ i = .int .i64 j ∧ C3 wr w.heap.size 0 (4, f, v) ∧ w.heap.size < wr.heap.size ∧ Below w.heap.size w wr) (fun i _ => 3 - (intOf i).toNat)
  case atStart => exact ⟨0, by omega, by omega, rfl, C3.new w (4, f, v), by simp, by go_grown⟩
  case round =>
    obtain ⟨j, hj0, hj, rfl, hc, hlt, hbel⟩ := hrel
    have hcl : j = 0 ∨ j = 1 ∨ j = 2 ∨ j = 3 := by omega
    rcases hcl with rfl | rfl | rfl | rfl
    · have c0 := hc.1
      go_wp2_with fail
      go_roundw
      case rel => exact ⟨1, by omega, by omega, by go_num, hc.below hlt ((Below.refl _ _).alloc (Nat.le_refl _) _), by simp; omega, hbel.alloc hbel.size _⟩
      case measure => simp [intOf]
    · have c0 := hc.1
      go_wp2_with fail
      go_roundw
      case rel => exact ⟨2, by omega, by omega, by go_num, hc.below hlt ((Below.refl _ _).alloc (Nat.le_refl _) _), by simp; omega, hbel.alloc hbel.size _⟩
      case measure => simp [intOf]
    · have c0 := hc.1
      go_wp2_with fail
      go_roundw
      case rel => exact ⟨3, by omega, by omega, by go_num, hc.below hlt ((Below.refl _ _).alloc (Nat.le_refl _) _), by simp; omega, hbel.alloc hbel.size _⟩
      case measure => simp [intOf]
    · have c0 := hc.1
      have HD2 : Hid (∀ n : GrT (wr.alloc (.cells #[.int .i64 4, .int .i64 18, .int .i64 8] 112)), Cd n.w) := (show ∀ n : GrT (wr.alloc (.cells #[.int .i64 4, .int .i64 18, .int .i64 8] 112)), Cd n.w from fun n => ((HD.out.below hbel).alloc _).below n.h)
      have q := C3.gr (W := (wr.alloc (.cells #[.int .i64 4, .int .i64 18, .int .i64 8] 112))) (hc.below hlt ((Below.refl _ _).alloc (Nat.le_refl _) _)) (by simp; omega)
      have q0 := fun n => (q n).1
      have q1 := fun n => (q n).2.1
      have q2 := fun n => (q n).2.2
      have k1 : ∀ n : GrT (wr.alloc (.cells #[.int .i64 4, .int .i64 18, .int .i64 8] 112)), n.w.cell? ⟨wr.heap.size, 1, none⟩ = some (.int .i64 18) := fun n => (n.h.cell (p := ⟨wr.heap.size, 1, none⟩) (by simp)).trans (by simp)
      have k2 : ∀ n : GrT (wr.alloc (.cells #[.int .i64 4, .int .i64 18, .int .i64 8] 112)), n.w.cell? ⟨wr.heap.size, 2, none⟩ = some (.int .i64 8) := fun n => (n.h.cell (p := ⟨wr.heap.size, 2, none⟩) (by simp)).trans (by simp)
      clear q
      go_wp2_with fail
      refine wp_region_grow (by kernel_rfl) (by kernel_rfl) ?_
      repeat (go_big_quiet_step ((first | (go_at_call 90; exact quiet_gr (HB.out _ (HD2.out _))) | (go_at_call_of 89 (Value.int IntKind.u64 18); exact quiet_gr (HN.out _)) | (go_at_call_of 89 (Value.int IntKind.u64 8); exact quiet_gr (HZ.out _)))))
      refine wpQuiet_nil ?_
      rintro w1 hw'
      have g1 := gr_elim hw'
      have b1 : Below w.heap.size w w1 := btr (hbel.alloc hbel.size _) g1 (Nat.le_refl _)
      have k3 := k2 none
      have k4 := (g1.cell (p := ⟨wr.heap.size, 2, none⟩) (by simp)).trans k3
      clear q0 q1 q2 k1 k2 k3 hw' HD2 hc hbel g1 c0
      have hS : (pb 18 2 ++ pb 8 2 ++ B).size + c = 8 := by rw [ByteArray.size_append, ByteArray.size_append, hps, hps]; omega
      obtain ⟨S, hS0⟩ : ∃ S, pb 18 2 ++ pb 8 2 ++ B = S := ⟨_, rfl⟩
      rw [hS0] at hS ⊢
      have HS0 : Hid (pb 18 2 ++ pb 8 2 ++ B = S) := hS0
      clear hS0
      have hSc : (8 : Int) - (S.size : Int) = (c : Int) := by omega
      have hzs := zeros_size c
      go_wp2_with fail
      refine (HR.out _).mono ?_
      rintro r w2 ⟨rfl, g2⟩
      go_wp2_with fail
      go_ret
      exact ⟨by rw [HS0.out]; rfl, btr b1 g2 (Nat.le_refl _)⟩
set_option maxHeartbeats 4000000 in
set_option maxRecDepth 20000 in
theorem write_5 (f v : Int) (B : ByteArray) (c : Nat) (w : World) (hd : Cd w) (hB : 4 + B.size + c = 16) (HB : Hid (∀ w, Cd w → Calls Tryz.prog 90 #[tV (5, f, v)] w fun e w' => e = .returned (.string B) ∧ Below w.heap.size w w')) :
    Calls Tryz.prog 81 #[tV (5, f, v)] w fun e w' => e = .returned (.string (pb 25 2 ++ pb 16 2 ++ B ++ zeros c)) ∧ Below w.heap.size w w' := by
  have HN : Hid (∀ w, Calls Tryz.prog 89 #[.int .u64 25, .int .i64 2] w fun e w' => e = .returned (.string (pb 25 2)) ∧ Below w.heap.size w w') := (show ∀ w, _ from fun w => mput2 25 w (by omega) (by omega))
  have HZ : Hid (∀ w, Calls Tryz.prog 89 #[.int .u64 16, .int .i64 2] w fun e w' => e = .returned (.string (pb 16 2)) ∧ Below w.heap.size w w') := (show ∀ w, _ from fun w => mput2 16 w (by omega) (by omega))
  have HR : Hid (∀ w, Calls Tryz.prog 91 #[.string ⟨#[0]⟩, .int .i64 c] w fun e w' => e = .returned (.string (zeros c)) ∧ Below w.heap.size w w') := (show ∀ w, _ from fun w => repeat_any c w (by omega))
  have hps := pb_size
  have hBs : B.size ≤ 12 := by omega
  obtain ⟨ct, cfr, hk⟩ := hd.kinds
  have HD : Hid (Cd w) := hd
  have x0 := idk0
  have x1 := idk1
  have x2 := idk2
  have x3 := idk3
  have x4 := idk4
  have hk' : (tx w (5, f, v)).heap[0]? = some (.cells kindsA ct cfr) := by
    have := ((Below.refl _ w).alloc (Nat.le_refl _) (.cells (tC (5, f, v)) 79)).block 0 (by have := hd.pos; omega)
    exact this.trans hk
  clear hd hk
  go_enter Tryz.func81, Tryz.ntmps81
  go_wp2_with (refine wpList_load_row rfl 113 (.global 0) rfl 0 rfl ct kindsA cfr _ hk' Tryz.underlying113 rfl (by kernel_rfl) ?_)
  clear hk'
  go_loopw [7] (fun i wr => ∃ j : Int, 0 ≤ j ∧ j ≤ 4 ∧ i = .int .i64 j ∧ C3 wr w.heap.size 0 (5, f, v) ∧ w.heap.size < wr.heap.size ∧ Below w.heap.size w wr) (fun i _ => 4 - (intOf i).toNat)
  case atStart => exact ⟨0, by omega, by omega, rfl, C3.new w (5, f, v), by simp, by go_grown⟩
  case round =>
    obtain ⟨j, hj0, hj, rfl, hc, hlt, hbel⟩ := hrel
    have hcl : j = 0 ∨ j = 1 ∨ j = 2 ∨ j = 3 ∨ j = 4 := by omega
    rcases hcl with rfl | rfl | rfl | rfl | rfl
    · have c0 := hc.1
      go_wp2_with fail
      go_roundw
      case rel => exact ⟨1, by omega, by omega, by go_num, hc.below hlt ((Below.refl _ _).alloc (Nat.le_refl _) _), by simp; omega, hbel.alloc hbel.size _⟩
      case measure => simp [intOf]
    · have c0 := hc.1
      go_wp2_with fail
      go_roundw
      case rel => exact ⟨2, by omega, by omega, by go_num, hc.below hlt ((Below.refl _ _).alloc (Nat.le_refl _) _), by simp; omega, hbel.alloc hbel.size _⟩
      case measure => simp [intOf]
    · have c0 := hc.1
      go_wp2_with fail
      go_roundw
      case rel => exact ⟨3, by omega, by omega, by go_num, hc.below hlt ((Below.refl _ _).alloc (Nat.le_refl _) _), by simp; omega, hbel.alloc hbel.size _⟩
      case measure => simp [intOf]
    · have c0 := hc.1
      go_wp2_with fail
      go_roundw
      case rel => exact ⟨4, by omega, by omega, by go_num, hc.below hlt ((Below.refl _ _).alloc (Nat.le_refl _) _), by simp; omega, hbel.alloc hbel.size _⟩
      case measure => simp [intOf]
    · have c0 := hc.1
      have HD2 : Hid (∀ n : GrT (wr.alloc (.cells #[.int .i64 5, .int .i64 25, .int .i64 16] 112)), Cd n.w) := (show ∀ n : GrT (wr.alloc (.cells #[.int .i64 5, .int .i64 25, .int .i64 16] 112)), Cd n.w from fun n => ((HD.out.below hbel).alloc _).below n.h)
      have q := C3.gr (W := (wr.alloc (.cells #[.int .i64 5, .int .i64 25, .int .i64 16] 112))) (hc.below hlt ((Below.refl _ _).alloc (Nat.le_refl _) _)) (by simp; omega)
      have q0 := fun n => (q n).1
      have q1 := fun n => (q n).2.1
      have q2 := fun n => (q n).2.2
      have k1 : ∀ n : GrT (wr.alloc (.cells #[.int .i64 5, .int .i64 25, .int .i64 16] 112)), n.w.cell? ⟨wr.heap.size, 1, none⟩ = some (.int .i64 25) := fun n => (n.h.cell (p := ⟨wr.heap.size, 1, none⟩) (by simp)).trans (by simp)
      have k2 : ∀ n : GrT (wr.alloc (.cells #[.int .i64 5, .int .i64 25, .int .i64 16] 112)), n.w.cell? ⟨wr.heap.size, 2, none⟩ = some (.int .i64 16) := fun n => (n.h.cell (p := ⟨wr.heap.size, 2, none⟩) (by simp)).trans (by simp)
      clear q
      go_wp2_with fail
      refine wp_region_grow (by kernel_rfl) (by kernel_rfl) ?_
      repeat (go_big_quiet_step ((first | (go_at_call 90; exact quiet_gr (HB.out _ (HD2.out _))) | (go_at_call_of 89 (Value.int IntKind.u64 25); exact quiet_gr (HN.out _)) | (go_at_call_of 89 (Value.int IntKind.u64 16); exact quiet_gr (HZ.out _)))))
      refine wpQuiet_nil ?_
      rintro w1 hw'
      have g1 := gr_elim hw'
      have b1 : Below w.heap.size w w1 := btr (hbel.alloc hbel.size _) g1 (Nat.le_refl _)
      have k3 := k2 none
      have k4 := (g1.cell (p := ⟨wr.heap.size, 2, none⟩) (by simp)).trans k3
      clear q0 q1 q2 k1 k2 k3 hw' HD2 hc hbel g1 c0
      have hS : (pb 25 2 ++ pb 16 2 ++ B).size + c = 16 := by rw [ByteArray.size_append, ByteArray.size_append, hps, hps]; omega
      obtain ⟨S, hS0⟩ : ∃ S, pb 25 2 ++ pb 16 2 ++ B = S := ⟨_, rfl⟩
      rw [hS0] at hS ⊢
      have HS0 : Hid (pb 25 2 ++ pb 16 2 ++ B = S) := hS0
      clear hS0
      have hSc : (16 : Int) - (S.size : Int) = (c : Int) := by omega
      have hzs := zeros_size c
      go_wp2_with fail
      refine (HR.out _).mono ?_
      rintro r w2 ⟨rfl, g2⟩
      go_wp2_with fail
      go_ret
      exact ⟨by rw [HS0.out]; rfl, btr b1 g2 (Nat.le_refl _)⟩
end Go.Proofs.YtjjfhibkcngphaaGreatDoor
