/-
  The walk of the law FieldTags.
-/
import Derived.Test.YtocckpphokkneaaTags
namespace Go.Proofs.Ytocckpphokkneaa
open Go.ChangeShapes Go.WideShapes Go.ChangeAt Go.RowKit

theorem Bx.upx {w : World} {b : Nat} {s : Sn} (h : Bx w b s) (hb : b < w.heap.size) (t : Sn) : Bx (bx w t) b s := h.below hb (by go_grown)
theorem Bx.upr {w : World} {b : Nat} {s : Sn} (h : Bx w b s) (hb : b < w.heap.size) (t : Sn) : Bx (rx w t) b s := h.below hb (by go_grown)

set_option maxHeartbeats 8000000 in
theorem tags_of (s t u : Sn) (n e f : Int) (w : World)
    (H1 : Hid (∀ w, Calls Try.prog 16 #[snV s, .int .u64 n] w fun x w' => x = .returned (.tuple #[snV t, .int .i64 e]) ∧ Below w.heap.size w w'))
    (H2 : Hid (∀ w, Calls Try.prog 17 #[snV s, .int .u64 n] w fun x w' => x = .returned (.tuple #[snV t, .int .i64 e]) ∧ Below w.heap.size w w'))
    (H3 : Hid (∀ w, Calls Try.prog 18 #[snV s] w fun x w' => x = .returned (.tuple #[snV u, .int .i64 f]) ∧ Below w.heap.size w w'))
    (H4 : Hid (∀ w, Calls Try.prog 19 #[snV s] w fun x w' => x = .returned (.tuple #[snV u, .int .i64 f]) ∧ Below w.heap.size w w')) :
    Calls Try.prog 5 #[snV s, .int .u64 n] w fun x w' => x = .returned (.bool true) ∧ Below w.heap.size w w' := by
  go_enter Try.func5, Try.ntmps5
  go_wp2_with fail
  refine (H1.out _).mono ?_
  rintro x w1 ⟨rfl, g1⟩
  have A1 : Bx (bx w1 t) w.heap.size s := ((Bx.new w s).below (by simp) g1).upx (Nat.lt_of_lt_of_le (by simp) g1.size) t
  have G1 : Below w.heap.size w (bx w1 t) := btr (btr (by go_grown) g1 (by simp)) (by go_grown) (Nat.le_refl _)
  have L1 : w.heap.size + 1 ≤ w1.heap.size := by have := g1.size; simp at this; omega
  have S1 : (bx w1 t).heap.size = w1.heap.size + 1 := by simp
  clear g1
  have C1 := A1
  obtain ⟨a0, a1, a2, a3, a4, a5, a6, a7, a8, a9, a10, a11, a12⟩ := A1
  go_wp2_with fail
  clear a0 a1 a2 a3 a4 a5 a6 a7 a8 a9 a10 a11 a12
  refine (plain_any s _).mono ?_
  rintro x w2 ⟨rfl, g2⟩
  have k2 : Below (w1.heap.size + 1) (bx w1 t) w2 := by rw [← S1]; exact g2
  have A2 := C1.below (by omega) k2
  have B2 := (Bx.new w1 t).below (by omega) k2
  have G2 : Below w.heap.size w w2 := btr G1 g2 (Nat.le_refl _)
  have L2 : w1.heap.size + 1 ≤ w2.heap.size := by have := k2.size; omega
  clear g2 k2 C1 G1
  go_wp2_with fail
  refine (H2.out _).mono ?_
  rintro x w3 ⟨rfl, g3⟩
  have A3 : Bx (rx w3 t) w.heap.size s := (A2.below (by omega) g3).upr (by have := g3.size; omega) t
  have B3 : Bx (rx w3 t) w1.heap.size t := (B2.below (by omega) g3).upr (by have := g3.size; omega) t
  have G3 : Below w.heap.size w (rx w3 t) := btr (btr G2 g3 (Nat.le_refl _)) (by go_grown) (Nat.le_refl _)
  have L3 : w1.heap.size + 1 ≤ w3.heap.size := Nat.le_trans L2 g3.size
  have S3 : (rx w3 t).heap.size = w3.heap.size + 1 := by simp
  clear g3 A2 B2 G2 L2
  have C3 := A3
  obtain ⟨a0, a1, a2, a3, a4, a5, a6, a7, a8, a9, a10, a11, a12⟩ := A3
  go_wp2_with fail
  clear a0 a1 a2 a3 a4 a5 a6 a7 a8 a9 a10 a11 a12
  refine (H3.out _).mono ?_
  rintro x w4 ⟨rfl, g4⟩
  have k4 : Below (w3.heap.size + 1) (rx w3 t) w4 := by rw [← S3]; exact g4
  have L4 : w3.heap.size + 1 ≤ w4.heap.size := by have := k4.size; omega
  have A4 : Bx (bx w4 u) w.heap.size s := (C3.below (by omega) k4).upx (by omega) u
  have B4 : Bx (bx w4 u) w1.heap.size t := (B3.below (by omega) k4).upx (by omega) u
  have R4 : Bx (bx w4 u) w3.heap.size t := ((Bx.newr w3 t).below (by omega) k4).upx (by omega) u
  have G4 : Below w.heap.size w (bx w4 u) := btr (btr G3 g4 (Nat.le_refl _)) (by go_grown) (Nat.le_refl _)
  have S4 : (bx w4 u).heap.size = w4.heap.size + 1 := by simp
  clear g4 k4 C3 B3 G3
  have C4 := A4
  obtain ⟨a0, a1, a2, a3, a4, a5, a6, a7, a8, a9, a10, a11, a12⟩ := A4
  go_wp2_with fail
  clear a0 a1 a2 a3 a4 a5 a6 a7 a8 a9 a10 a11 a12
  refine (plain_any s _).mono ?_
  rintro x w5 ⟨rfl, g5⟩
  have k5 : Below (w4.heap.size + 1) (bx w4 u) w5 := by rw [← S4]; exact g5
  have L5 : w4.heap.size + 1 ≤ w5.heap.size := by have := k5.size; omega
  have B5 := B4.below (by omega) k5
  have R5 := R4.below (by omega) k5
  have U5 := (Bx.new w4 u).below (by omega) k5
  have G5 : Below w.heap.size w w5 := btr G4 g5 (Nat.le_refl _)
  clear g5 k5 C4 B4 R4 G4
  go_wp2_with fail
  refine (H4.out _).mono ?_
  rintro x w6 ⟨rfl, g6⟩
  have L6 : w4.heap.size + 1 ≤ w6.heap.size := Nat.le_trans L5 g6.size
  have G6 : Below w.heap.size w w6 := btr G5 g6 (Nat.le_refl _)
  have S6 : (rx w6 u).heap.size = w6.heap.size + 1 := by simp
  have hb : ∀ n : GrT (rx w6 u), Bx n.w w1.heap.size t := fun n => ((B5.below (by omega) g6).upr (by omega) u).below (by omega) n.h
  have hr : ∀ n : GrT (rx w6 u), Bx n.w w3.heap.size t := fun n => ((R5.below (by omega) g6).upr (by omega) u).below (by omega) n.h
  have hu : ∀ n : GrT (rx w6 u), Bx n.w w4.heap.size u := fun n => ((U5.below (by omega) g6).upr (by omega) u).below (by omega) n.h
  have hq : ∀ n : GrT (rx w6 u), Bx n.w w6.heap.size u := fun n => (Bx.newr w6 u).below (by simp) n.h
  clear g6 B5 R5 U5 G5 S1 S3 S4
  go_wp2_with fail
  refine wp_region_grow (by kernel_rfl) (by kernel_rfl) ?_
  repeat (go_big_quiet_step (first | (go_at_call 10; first | exact quiet_gr (plain_any t _) | exact quiet_gr (plain_any u _)) | (go_at_call 13; exact quiet_gr (awake_any _))))
  refine wpQuiet_nil ?_
  rintro w7 hw'
  have g7 := gr_elim hw'
  clear hw'
  go_wp2_with fail
  go_ret
  exact ⟨rfl, btr (btr G6 (by go_grown) (Nat.le_refl _)) g7 (Nat.le_refl _)⟩
theorem tags_walk (s : Sn) (n : Int) (w : World) (_ : Wf s) (_ : s.data.size ≤ maxLen) (hv : (Lit.int .u64 n).wf = true) :
    Calls Try.prog 5 #[snV s, .int .u64 n] w fun x w' => x = .returned (.bool true) ∧ Below w.heap.size w w' := by
  have h : 0 ≤ n := by simp [Lit.wf, IntKind.min, IntKind.max, IntKind.signed, IntKind.bits] at hv; omega
  exact tags_of s (pushS s n) (popS s) n (pushE s n) (popE s) w (fun w => push_any s n w h) (fun w => rpush_any s n w h) (fun w => pop_any s w) (fun w => rpop_any s w)
end Go.Proofs.Ytocckpphokkneaa
