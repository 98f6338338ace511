/-
  The walk of the law FieldBack.
-/
import Derived.Test.YtocckpphokkneaaAgain
namespace Go.Proofs.Ytocckpphokkneaa
open Go.ChangeShapes Go.WideShapes Go.ChangeAt Go.RowKit

theorem Bx.upx {w : World} {b : Nat} {s : Sn} (h : Bx w b s) (hb : b < w.heap.size) (t : Sn) : Bx (bx w t) b s := h.below hb (by go_grown)

set_option maxRecDepth 20000 in
set_option maxHeartbeats 8000000 in
theorem back_ac (s : Sn) (f v : Int) (w : World) (t : Sn) (HP : Hid (∀ w, Calls Try.prog 14 #[snV s, .int .i64 f, .int .u64 v] w fun x w' => x = .returned (.tuple #[snV t, .int .i64 0]) ∧ Below w.heap.size w w'))
    (HS : Hid (∀ g w, Calls Try.prog 8 #[snV s, .int .i64 g] w fun x w' => x = .returned (.tuple #[.int .u64 (getV s g), .int .i64 (getE s g)]) ∧ Below w.heap.size w w'))
    (HT : Hid (∀ w, Calls Try.prog 8 #[snV t, .int .i64 f] w fun x w' => x = .returned (.tuple #[.int .u64 v, .int .i64 (getE s f)]) ∧ Below w.heap.size w w'))
    (HO : Hid (∀ g w, g ≠ f → Calls Try.prog 8 #[snV t, .int .i64 g] w fun x w' => x = .returned (.tuple #[.int .u64 (getV s g), .int .i64 (getE s g)]) ∧ Below w.heap.size w w'))
    (d1 : Hid (t.data = s.data)) (d2 : Hid (t.to = s.to)) (d3 : Hid (t.fr = s.fr)) (d4 : Hid (t.life = s.life))
    (e2 : Int) (he2 : (e2 != 0) = true) (HQ : Hid (∀ w, Calls Try.prog 16 #[snV s, .int .u64 v] w fun x w' => x = .returned (.tuple #[snV ⟨0, 0, 0, 0, 0, 0, 0, 0, 0, 0, 0, 0, ⟨#[]⟩⟩, .int .i64 e2]) ∧ Below w.heap.size w w')) :
    Calls Try.prog 7 #[snV s, .int .i64 f, .int .u64 v] w fun x w' => x = .returned (.bool true) ∧ Below w.heap.size w w' := by
  go_enter Try.func7, Try.ntmps7
  go_wp2_with fail
  refine (HP.out _).mono ?_
  rintro x w1 ⟨rfl, g1⟩
  have A1 : Bx (bx w1 t) w.heap.size s := ((Bx.new w s).below (by simp) g1).upx (Nat.lt_of_lt_of_le (by simp) g1.size) t
  have G1 : Below w.heap.size w (bx w1 t) := btr (btr (by go_grown) g1 (by simp)) (by go_grown) (Nat.le_refl _)
  have L1 : w.heap.size + 1 ≤ w1.heap.size := by have := g1.size; simp at this; omega
  clear g1
  have T1 : Bx (bx w1 t) w1.heap.size t := Bx.new w1 t
  have S1 : (bx w1 t).heap.size = w1.heap.size + 1 := by simp
  go_wp2_with fail
  go_loopw [9] (fun i wr => ∃ k : Int, 1 ≤ k ∧ k ≤ 10 ∧ i = .int .i64 k ∧ Bx wr w.heap.size s ∧ Bx wr w1.heap.size t ∧ w1.heap.size + 1 ≤ wr.heap.size ∧ Below w.heap.size w wr)
    (fun i _ => (10 - intOf i).toNat)
  case atStart => exact ⟨1, by omega, by omega, rfl, A1, T1, Nat.le_of_eq S1.symm, G1⟩
  case round =>
    obtain ⟨k, hk1, hk, rfl, hb, ht, hl, hbel⟩ := hrel
    clear A1 T1 S1 G1
    by_cases hlt : k < 10
    · have A2 := hb
      obtain ⟨a0, a1, a2, a3, a4, a5, a6, a7, a8, a9, a10, a11, a12⟩ := A2
      go_wp2_with fail
      clear a0 a1 a2 a3 a4 a5 a6 a7 a8 a9 a10 a11 a12
      refine (HS.out k _).mono ?_
      rintro x w2 ⟨rfl, g2⟩
      have A3 := hb.below (by omega) g2
      have T3 := ht.below (by omega) g2
      have L3 := Nat.le_trans hl g2.size
      have G3 := btr hbel g2 (Nat.le_refl _)
      clear hb ht hl hbel g2
      have T4 := T3
      obtain ⟨c0, c1, c2, c3, c4, c5, c6, c7, c8, c9, c10, c11, c12⟩ := T4
      go_wp2_with fail
      clear c0 c1 c2 c3 c4 c5 c6 c7 c8 c9 c10 c11 c12
      by_cases hkf : k = f
      · have q1 : (k == f) = true := by simp [hkf]
        have q2 : (k != f) = false := by simp [hkf]
        have HT2 : Hid (∀ w, Calls Try.prog 8 #[snV t, .int .i64 k] w fun x w' => x = .returned (.tuple #[.int .u64 v, .int .i64 (getE s k)]) ∧ Below w.heap.size w w') := by rw [hkf]; exact HT
        clear hkf
        refine (HT2.out _).mono ?_
        rintro x w3 ⟨rfl, g3⟩
        have A5 := A3.below (by omega) g3
        have T5 := T3.below (by omega) g3
        have L5 := Nat.le_trans L3 g3.size
        have G5 := btr G3 g3 (Nat.le_refl _)
        clear A3 T3 L3 G3 g3
        go_wp2_with fail
        go_roundw
        case rel => exact ⟨k + 1, by omega, by omega, by go_num, A5, T5, L5, G5⟩
        case measure => simp [intOf]; omega
      · have q1 : (k == f) = false := by simp [hkf]
        have q2 : (k != f) = true := by simp [hkf]
        refine (HO.out k _ hkf).mono ?_
        clear hkf
        rintro x w3 ⟨rfl, g3⟩
        have A5 := A3.below (by omega) g3
        have T5 := T3.below (by omega) g3
        have L5 := Nat.le_trans L3 g3.size
        have G5 := btr G3 g3 (Nat.le_refl _)
        clear A3 T3 L3 G3 g3
        go_wp2_with fail
        go_roundw
        case rel => exact ⟨k + 1, by omega, by omega, by go_num, A5, T5, L5, G5⟩
        case measure => simp [intOf]; omega
    · obtain rfl : k = 10 := by omega
      have AX := hb
      have GX := hbel
      have LX : w.heap.size < wr.heap.size := by omega
      obtain ⟨a0, a1, a2, a3, a4, a5, a6, a7, a8, a9, a10, a11, a12⟩ := hb
      obtain ⟨c0, c1, c2, c3, c4, c5, c6, c7, c8, c9, c10, c11, c12⟩ := ht
      rw [d1.out] at c12
      rw [d2.out] at c2
      rw [d3.out] at c3
      rw [d4.out] at c8
      clear hbel hl d1 d2 d3 d4 HS HT HO
      go_wp2_with fail
      clear a0 a1 a2 a3 a4 a5 a6 a7 a8 a9 a10 a11 a12 c0 c1 c2 c3 c4 c5 c6 c7 c8 c9 c10 c11 c12
      refine (HQ.out _).mono ?_
      rintro x w5 ⟨rfl, g5⟩
      have G5 := btr GX g5 (Nat.le_refl _)
      clear g5 AX GX LX
      go_wp2_with fail
      refine (awake_any _).mono ?_
      rintro x w6 ⟨rfl, g6⟩
      go_wp2_with fail
      go_ret
      exact ⟨rfl, btr (btr G5 (by go_grown) (Nat.le_refl _)) g6 (Nat.le_refl _)⟩

set_option maxRecDepth 20000 in
set_option maxHeartbeats 8000000 in
theorem back_ad (s : Sn) (f v : Int) (w : World) (t : Sn) (HP : Hid (∀ w, Calls Try.prog 14 #[snV s, .int .i64 f, .int .u64 v] w fun x w' => x = .returned (.tuple #[snV t, .int .i64 0]) ∧ Below w.heap.size w w'))
    (HS : Hid (∀ g w, Calls Try.prog 8 #[snV s, .int .i64 g] w fun x w' => x = .returned (.tuple #[.int .u64 (getV s g), .int .i64 (getE s g)]) ∧ Below w.heap.size w w'))
    (HT : Hid (∀ w, Calls Try.prog 8 #[snV t, .int .i64 f] w fun x w' => x = .returned (.tuple #[.int .u64 v, .int .i64 (getE s f)]) ∧ Below w.heap.size w w'))
    (HO : Hid (∀ g w, g ≠ f → Calls Try.prog 8 #[snV t, .int .i64 g] w fun x w' => x = .returned (.tuple #[.int .u64 (getV s g), .int .i64 (getE s g)]) ∧ Below w.heap.size w w'))
    (d1 : Hid (t.data = s.data)) (d2 : Hid (t.to = s.to)) (d3 : Hid (t.fr = s.fr)) (d4 : Hid (t.life = s.life))
    (u : Sn) (v0 : 0 ≤ v) (v1 : v ≤ 4095) (HQ : Hid (∀ w, Calls Try.prog 16 #[snV s, .int .u64 v] w fun x w' => x = .returned (.tuple #[snV u, .int .i64 0]) ∧ Below w.heap.size w w'))
    (HR : Hid (∀ w, Calls Try.prog 18 #[snV u] w fun x w' => x = .returned (.tuple #[snV s, .int .i64 0]) ∧ Below w.heap.size w w'))
    (HU : Hid (∀ w, Calls Try.prog 8 #[snV u, .int .i64 3] w fun x w' => x = .returned (.tuple #[.int .u64 (4096 + v), .int .i64 0]) ∧ Below w.heap.size w w')) :
    Calls Try.prog 7 #[snV s, .int .i64 f, .int .u64 v] w fun x w' => x = .returned (.bool true) ∧ Below w.heap.size w w' := by
  go_enter Try.func7, Try.ntmps7
  go_wp2_with fail
  refine (HP.out _).mono ?_
  rintro x w1 ⟨rfl, g1⟩
  have A1 : Bx (bx w1 t) w.heap.size s := ((Bx.new w s).below (by simp) g1).upx (Nat.lt_of_lt_of_le (by simp) g1.size) t
  have G1 : Below w.heap.size w (bx w1 t) := btr (btr (by go_grown) g1 (by simp)) (by go_grown) (Nat.le_refl _)
  have L1 : w.heap.size + 1 ≤ w1.heap.size := by have := g1.size; simp at this; omega
  clear g1
  have T1 : Bx (bx w1 t) w1.heap.size t := Bx.new w1 t
  have S1 : (bx w1 t).heap.size = w1.heap.size + 1 := by simp
  go_wp2_with fail
  go_loopw [9] (fun i wr => ∃ k : Int, 1 ≤ k ∧ k ≤ 10 ∧ i = .int .i64 k ∧ Bx wr w.heap.size s ∧ Bx wr w1.heap.size t ∧ w1.heap.size + 1 ≤ wr.heap.size ∧ Below w.heap.size w wr)
    (fun i _ => (10 - intOf i).toNat)
  case atStart => exact ⟨1, by omega, by omega, rfl, A1, T1, Nat.le_of_eq S1.symm, G1⟩
  case round =>
    obtain ⟨k, hk1, hk, rfl, hb, ht, hl, hbel⟩ := hrel
    clear A1 T1 S1 G1
    by_cases hlt : k < 10
    · have A2 := hb
      obtain ⟨a0, a1, a2, a3, a4, a5, a6, a7, a8, a9, a10, a11, a12⟩ := A2
      go_wp2_with fail
      clear a0 a1 a2 a3 a4 a5 a6 a7 a8 a9 a10 a11 a12
      refine (HS.out k _).mono ?_
      rintro x w2 ⟨rfl, g2⟩
      have A3 := hb.below (by omega) g2
      have T3 := ht.below (by omega) g2
      have L3 := Nat.le_trans hl g2.size
      have G3 := btr hbel g2 (Nat.le_refl _)
      clear hb ht hl hbel g2
      have T4 := T3
      obtain ⟨c0, c1, c2, c3, c4, c5, c6, c7, c8, c9, c10, c11, c12⟩ := T4
      go_wp2_with fail
      clear c0 c1 c2 c3 c4 c5 c6 c7 c8 c9 c10 c11 c12
      by_cases hkf : k = f
      · have q1 : (k == f) = true := by simp [hkf]
        have q2 : (k != f) = false := by simp [hkf]
        have HT2 : Hid (∀ w, Calls Try.prog 8 #[snV t, .int .i64 k] w fun x w' => x = .returned (.tuple #[.int .u64 v, .int .i64 (getE s k)]) ∧ Below w.heap.size w w') := by rw [hkf]; exact HT
        clear hkf
        refine (HT2.out _).mono ?_
        rintro x w3 ⟨rfl, g3⟩
        have A5 := A3.below (by omega) g3
        have T5 := T3.below (by omega) g3
        have L5 := Nat.le_trans L3 g3.size
        have G5 := btr G3 g3 (Nat.le_refl _)
        clear A3 T3 L3 G3 g3
        go_wp2_with fail
        go_roundw
        case rel => exact ⟨k + 1, by omega, by omega, by go_num, A5, T5, L5, G5⟩
        case measure => simp [intOf]; omega
      · have q1 : (k == f) = false := by simp [hkf]
        have q2 : (k != f) = true := by simp [hkf]
        refine (HO.out k _ hkf).mono ?_
        clear hkf
        rintro x w3 ⟨rfl, g3⟩
        have A5 := A3.below (by omega) g3
        have T5 := T3.below (by omega) g3
        have L5 := Nat.le_trans L3 g3.size
        have G5 := btr G3 g3 (Nat.le_refl _)
        clear A3 T3 L3 G3 g3
        go_wp2_with fail
        go_roundw
        case rel => exact ⟨k + 1, by omega, by omega, by go_num, A5, T5, L5, G5⟩
        case measure => simp [intOf]; omega
    · obtain rfl : k = 10 := by omega
      have AX := hb
      have GX := hbel
      have LX : w.heap.size < wr.heap.size := by omega
      obtain ⟨a0, a1, a2, a3, a4, a5, a6, a7, a8, a9, a10, a11, a12⟩ := hb
      obtain ⟨c0, c1, c2, c3, c4, c5, c6, c7, c8, c9, c10, c11, c12⟩ := ht
      rw [d1.out] at c12
      rw [d2.out] at c2
      rw [d3.out] at c3
      rw [d4.out] at c8
      clear hbel hl d1 d2 d3 d4 HS HT HO
      go_wp2_with fail
      clear a0 a1 a2 a3 a4 a5 a6 a7 a8 a9 a10 a11 a12 c0 c1 c2 c3 c4 c5 c6 c7 c8 c9 c10 c11 c12
      refine (HQ.out _).mono ?_
      rintro x w5 ⟨rfl, g5⟩
      have A5 : Bx (bx w5 u) w.heap.size s := (AX.below LX g5).upx (Nat.lt_of_lt_of_le LX g5.size) u
      have G5 : Below w.heap.size w (bx w5 u) := btr (btr GX g5 (Nat.le_refl _)) (by go_grown) (Nat.le_refl _)
      have L5 : w.heap.size + 1 ≤ w5.heap.size := Nat.le_trans LX g5.size
      have S5 : (bx w5 u).heap.size = w5.heap.size + 1 := by simp
      clear g5 AX GX LX
      go_wp2_with fail
      refine (HR.out _).mono ?_
      rintro x w6 ⟨rfl, g6⟩
      have k6 : Below (w5.heap.size + 1) (bx w5 u) w6 := by rw [← S5]; exact g6
      have L6 : w5.heap.size + 1 ≤ w6.heap.size := by have := k6.size; omega
      have A6 : Bx (bx w6 s) w.heap.size s := (A5.below (by omega) k6).upx (by omega) s
      have U6 : Bx (bx w6 s) w5.heap.size u := ((Bx.new w5 u).below (by omega) k6).upx (by omega) s
      have G6 : Below w.heap.size w (bx w6 s) := btr (btr G5 g6 (Nat.le_refl _)) (by go_grown) (Nat.le_refl _)
      have S6 : (bx w6 s).heap.size = w6.heap.size + 1 := by simp
      clear g6 k6 A5 G5 S5
      obtain ⟨u0, u1, u2, u3, u4, u5, u6, u7, u8, u9, u10, u11, u12⟩ := U6
      go_wp2_with fail
      clear u0 u1 u2 u3 u4 u5 u6 u7 u8 u9 u10 u11 u12
      refine (HU.out _).mono ?_
      rintro x w7 ⟨rfl, g7⟩
      have k7 : Below (w6.heap.size + 1) (bx w6 s) w7 := by rw [← S6]; exact g7
      have A7 := A6.below (by omega) k7
      have C7 := (Bx.new w6 s).below (by omega) k7
      have G7 : Below w.heap.size w w7 := btr G6 g7 (Nat.le_refl _)
      clear g7 k7 A6 G6 S6 L6
      obtain ⟨a0, a1, a2, a3, a4, a5, a6, a7, a8, a9, a10, a11, a12⟩ := A7
      obtain ⟨c0, c1, c2, c3, c4, c5, c6, c7, c8, c9, c10, c11, c12⟩ := C7
      go_wp2_with fail
      refine (awake_any _).mono ?_
      rintro x w8 ⟨rfl, g8⟩
      go_wp2_with fail
      go_ret
      exact ⟨rfl, btr G7 g8 (Nat.le_refl _)⟩

set_option maxRecDepth 20000 in
set_option maxHeartbeats 8000000 in
theorem back_bc (s : Sn) (f v : Int) (w : World) (e : Int) (he : (e == 0) = false) (HP : Hid (∀ w, Calls Try.prog 14 #[snV s, .int .i64 f, .int .u64 v] w fun x w' => x = .returned (.tuple #[snV ⟨0, 0, 0, 0, 0, 0, 0, 0, 0, 0, 0, 0, ⟨#[]⟩⟩, .int .i64 e]) ∧ Below w.heap.size w w'))
    (e2 : Int) (he2 : (e2 != 0) = true) (HQ : Hid (∀ w, Calls Try.prog 16 #[snV s, .int .u64 v] w fun x w' => x = .returned (.tuple #[snV ⟨0, 0, 0, 0, 0, 0, 0, 0, 0, 0, 0, 0, ⟨#[]⟩⟩, .int .i64 e2]) ∧ Below w.heap.size w w')) :
    Calls Try.prog 7 #[snV s, .int .i64 f, .int .u64 v] w fun x w' => x = .returned (.bool true) ∧ Below w.heap.size w w' := by
  go_enter Try.func7, Try.ntmps7
  go_wp2_with fail
  refine (HP.out _).mono ?_
  rintro x w1 ⟨rfl, g1⟩
  have A1 : Bx (bx w1 ⟨0, 0, 0, 0, 0, 0, 0, 0, 0, 0, 0, 0, ⟨#[]⟩⟩) w.heap.size s := ((Bx.new w s).below (by simp) g1).upx (Nat.lt_of_lt_of_le (by simp) g1.size) ⟨0, 0, 0, 0, 0, 0, 0, 0, 0, 0, 0, 0, ⟨#[]⟩⟩
  have G1 : Below w.heap.size w (bx w1 ⟨0, 0, 0, 0, 0, 0, 0, 0, 0, 0, 0, 0, ⟨#[]⟩⟩) := btr (btr (by go_grown) g1 (by simp)) (by go_grown) (Nat.le_refl _)
  have L1 : w.heap.size + 1 ≤ w1.heap.size := by have := g1.size; simp at this; omega
  clear g1
  have AX := A1
  have GX := G1
  have LX : w.heap.size < (bx w1 ⟨0, 0, 0, 0, 0, 0, 0, 0, 0, 0, 0, 0, ⟨#[]⟩⟩).heap.size := by simp; omega
  obtain ⟨a0, a1, a2, a3, a4, a5, a6, a7, a8, a9, a10, a11, a12⟩ := A1
  clear G1
  go_wp2_with fail
  clear a0 a1 a2 a3 a4 a5 a6 a7 a8 a9 a10 a11 a12
  refine (HQ.out _).mono ?_
  rintro x w5 ⟨rfl, g5⟩
  have G5 := btr GX g5 (Nat.le_refl _)
  clear g5 AX GX LX
  go_wp2_with fail
  refine (awake_any _).mono ?_
  rintro x w6 ⟨rfl, g6⟩
  go_wp2_with fail
  go_ret
  exact ⟨rfl, btr (btr G5 (by go_grown) (Nat.le_refl _)) g6 (Nat.le_refl _)⟩

set_option maxRecDepth 20000 in
set_option maxHeartbeats 8000000 in
theorem back_bd (s : Sn) (f v : Int) (w : World) (e : Int) (he : (e == 0) = false) (HP : Hid (∀ w, Calls Try.prog 14 #[snV s, .int .i64 f, .int .u64 v] w fun x w' => x = .returned (.tuple #[snV ⟨0, 0, 0, 0, 0, 0, 0, 0, 0, 0, 0, 0, ⟨#[]⟩⟩, .int .i64 e]) ∧ Below w.heap.size w w'))
    (u : Sn) (v0 : 0 ≤ v) (v1 : v ≤ 4095) (HQ : Hid (∀ w, Calls Try.prog 16 #[snV s, .int .u64 v] w fun x w' => x = .returned (.tuple #[snV u, .int .i64 0]) ∧ Below w.heap.size w w'))
    (HR : Hid (∀ w, Calls Try.prog 18 #[snV u] w fun x w' => x = .returned (.tuple #[snV s, .int .i64 0]) ∧ Below w.heap.size w w'))
    (HU : Hid (∀ w, Calls Try.prog 8 #[snV u, .int .i64 3] w fun x w' => x = .returned (.tuple #[.int .u64 (4096 + v), .int .i64 0]) ∧ Below w.heap.size w w')) :
    Calls Try.prog 7 #[snV s, .int .i64 f, .int .u64 v] w fun x w' => x = .returned (.bool true) ∧ Below w.heap.size w w' := by
  go_enter Try.func7, Try.ntmps7
  go_wp2_with fail
  refine (HP.out _).mono ?_
  rintro x w1 ⟨rfl, g1⟩
  have A1 : Bx (bx w1 ⟨0, 0, 0, 0, 0, 0, 0, 0, 0, 0, 0, 0, ⟨#[]⟩⟩) w.heap.size s := ((Bx.new w s).below (by simp) g1).upx (Nat.lt_of_lt_of_le (by simp) g1.size) ⟨0, 0, 0, 0, 0, 0, 0, 0, 0, 0, 0, 0, ⟨#[]⟩⟩
  have G1 : Below w.heap.size w (bx w1 ⟨0, 0, 0, 0, 0, 0, 0, 0, 0, 0, 0, 0, ⟨#[]⟩⟩) := btr (btr (by go_grown) g1 (by simp)) (by go_grown) (Nat.le_refl _)
  have L1 : w.heap.size + 1 ≤ w1.heap.size := by have := g1.size; simp at this; omega
  clear g1
  have AX := A1
  have GX := G1
  have LX : w.heap.size < (bx w1 ⟨0, 0, 0, 0, 0, 0, 0, 0, 0, 0, 0, 0, ⟨#[]⟩⟩).heap.size := by simp; omega
  obtain ⟨a0, a1, a2, a3, a4, a5, a6, a7, a8, a9, a10, a11, a12⟩ := A1
  clear G1
  go_wp2_with fail
  clear a0 a1 a2 a3 a4 a5 a6 a7 a8 a9 a10 a11 a12
  refine (HQ.out _).mono ?_
  rintro x w5 ⟨rfl, g5⟩
  have A5 : Bx (bx w5 u) w.heap.size s := (AX.below LX g5).upx (Nat.lt_of_lt_of_le LX g5.size) u
  have G5 : Below w.heap.size w (bx w5 u) := btr (btr GX g5 (Nat.le_refl _)) (by go_grown) (Nat.le_refl _)
  have L5 : w.heap.size + 1 ≤ w5.heap.size := Nat.le_trans LX g5.size
  have S5 : (bx w5 u).heap.size = w5.heap.size + 1 := by simp
  clear g5 AX GX LX
  go_wp2_with fail
  refine (HR.out _).mono ?_
  rintro x w6 ⟨rfl, g6⟩
  have k6 : Below (w5.heap.size + 1) (bx w5 u) w6 := by rw [← S5]; exact g6
  have L6 : w5.heap.size + 1 ≤ w6.heap.size := by have := k6.size; omega
  have A6 : Bx (bx w6 s) w.heap.size s := (A5.below (by omega) k6).upx (by omega) s
  have U6 : Bx (bx w6 s) w5.heap.size u := ((Bx.new w5 u).below (by omega) k6).upx (by omega) s
  have G6 : Below w.heap.size w (bx w6 s) := btr (btr G5 g6 (Nat.le_refl _)) (by go_grown) (Nat.le_refl _)
  have S6 : (bx w6 s).heap.size = w6.heap.size + 1 := by simp
  clear g6 k6 A5 G5 S5
  obtain ⟨u0, u1, u2, u3, u4, u5, u6, u7, u8, u9, u10, u11, u12⟩ := U6
  go_wp2_with fail
  clear u0 u1 u2 u3 u4 u5 u6 u7 u8 u9 u10 u11 u12
  refine (HU.out _).mono ?_
  rintro x w7 ⟨rfl, g7⟩
  have k7 : Below (w6.heap.size + 1) (bx w6 s) w7 := by rw [← S6]; exact g7
  have A7 := A6.below (by omega) k7
  have C7 := (Bx.new w6 s).below (by omega) k7
  have G7 : Below w.heap.size w w7 := btr G6 g7 (Nat.le_refl _)
  clear g7 k7 A6 G6 S6 L6
  obtain ⟨a0, a1, a2, a3, a4, a5, a6, a7, a8, a9, a10, a11, a12⟩ := A7
  obtain ⟨c0, c1, c2, c3, c4, c5, c6, c7, c8, c9, c10, c11, c12⟩ := C7
  go_wp2_with fail
  refine (awake_any _).mono ?_
  rintro x w8 ⟨rfl, g8⟩
  go_wp2_with fail
  go_ret
  exact ⟨rfl, btr G7 g8 (Nat.le_refl _)⟩

theorem back_walk (s : Sn) (f v : Int) (w : World) (hw : Wf s) (_ : s.data.size ≤ maxLen) (_ : (Lit.int .i64 f).wf = true) (hv : (Lit.int .u64 v).wf = true) :
    Calls Try.prog 7 #[snV s, .int .i64 f, .int .u64 v] w fun x w' => x = .returned (.bool true) ∧ Below w.heap.size w w' := by
  have h : 0 ≤ v ∧ v < 18446744073709551616 := by simp [Lit.wf, IntKind.min, IntKind.max, IntKind.signed, IntKind.bits] at hv; omega
  have hp := fun w => put_any s f v w h.1
  have hq := fun w => push_any s v w h.1
  have hs := fun g w => get_any s g w hw
  unfold putS at hp
  unfold pushS at hq
  by_cases cp : putE s f v = 0
  · rw [if_pos cp, cp] at hp
    obtain ⟨_, _, hle⟩ := put_ok cp
    have ht := fun g w => get_any (withV s f v) g w (with_wf s f v hw h.1 hle)
    obtain ⟨d1, d2, d3, d4⟩ := with_rest s f v
    have hT := fun w => ht f w
    rw [put_same s f v cp h.1, put_err] at hT
    have hO : ∀ g w, g ≠ f → _ := fun g w (hne : g ≠ f) => put_err s f v g ▸ put_other s f v g hne ▸ ht g w
    by_cases cq : pushE s v = 0
    · rw [if_pos cq, cq] at hq
      obtain ⟨hv0, hn⟩ := push_ok cq
      obtain ⟨e1, e2⟩ := pop_push s v cq h.1
      obtain ⟨e3, e4⟩ := get_push s v h.1 hn
      have hr := fun w => pop_any { s with vl := 4096 + v } w
      rw [e1, e2] at hr
      have hu := fun w => get_any { s with vl := 4096 + v } 3 w ⟨hw.m0, hw.m1, hw.a0, hw.a1, hw.b0, hw.b1⟩
      rw [e3, e4] at hu
      exact back_ad s f v w _ hp hs hT hO d1 d2 d3 d4 _ h.1 hn hq hr hu
    · rw [if_neg cq] at hq
      exact back_ac s f v w _ hp hs hT hO d1 d2 d3 d4 _ (by simp [cq]) hq
  · rw [if_neg cp] at hp
    by_cases cq : pushE s v = 0
    · rw [if_pos cq, cq] at hq
      obtain ⟨hv0, hn⟩ := push_ok cq
      obtain ⟨e1, e2⟩ := pop_push s v cq h.1
      obtain ⟨e3, e4⟩ := get_push s v h.1 hn
      have hr := fun w => pop_any { s with vl := 4096 + v } w
      rw [e1, e2] at hr
      have hu := fun w => get_any { s with vl := 4096 + v } 3 w ⟨hw.m0, hw.m1, hw.a0, hw.a1, hw.b0, hw.b1⟩
      rw [e3, e4] at hu
      exact back_bd s f v w _ (by simp [cp]) hp _ h.1 hn hq hr hu
    · rw [if_neg cq] at hq
      exact back_bc s f v w _ (by simp [cp]) hp _ (by simp [cq]) hq
end Go.Proofs.Ytocckpphokkneaa
