/-
  What 'write' and 'Bytes' answer, as contracts: a right packet's bytes.
-/
import Derived.Test.YtmlonfchbkmbcabDoorGSums
namespace Go.Proofs.YtmlonfchbkmbcabDoor.Fr
open Go.ChangeShapes Go.WideShapes Go.ChangeAt Go.RowKit

/-- Where 'write' stands: its packet and its sums lie in two blocks, and nothing that was there has turned. -/
structure At (w : World) (p : Pk) (a b : Int) (w1 : World) : Prop where
  pk : Bx w1 w.heap.size p
  sm : Sx w1 (w.heap.size + 1) a b
  gr : Below w.heap.size w w1
  lt : w.heap.size + 1 < w1.heap.size
theorem At.next {w : World} {p : Pk} {a b : Int} {w1 w2 : World} (h : At w p a b w1) (g : Below w1.heap.size w1 w2) : At w p a b w2 :=
  have h' := h.lt
  ⟨h.pk.below (by omega) g, h.sm.below h' g, btr h.gr g (Nat.le_refl _), Nat.lt_of_lt_of_le h' g.size⟩
theorem At.new (w : World) (p : Pk) (a b : Int) : At w p a b ((bx w p).alloc (.cells #[.int .i64 a, .int .i64 b] 49)) :=
  have gb : Below (bx w p).heap.size (bx w p) ((bx w p).alloc (.cells #[.int .i64 a, .int .i64 b] 49)) := by go_grown
  ⟨(Bx.new w p).below (by simp [bx]) gb, by unfold Sx bx; simp, by go_grown, by simp [bx]⟩

set_option maxHeartbeats 2000000 in
theorem write_any (p : Pk) (a b : Int) (w : World) (h : Ok p) (a0 : 0 ≤ a) (a1 : a ≤ 65535) (b0 : 0 ≤ b) (b1 : b ≤ 65535) :
    Calls Tryd.prog 18 #[pkV p, .agg #[.int .i64 a, .int .i64 b]] w fun x w' => x = .returned (.string (writeV p a b)) ∧ Below w.heap.size w w' := by
  have hz : ∀ n k, (pb n k).size = k := pb_size
  have hhs := headV_size p a
  have hps := partV_size p b
  have HO : Hid (Ok p) := h
  have t0 := h.to0
  have t1 := h.to1
  have f0 := h.fr0
  have f1 := h.fr1
  have y0 := h.ty0
  have y1 := h.ty1
  have hd : (p.data.size : Int) ≤ 3000 := by have := h.sz; omega
  have hq : (partZ p : Int) ≤ 3020 := by have := h.sz; have := partA_le p; unfold partZ; omega
  have HV := h.vl
  clear h
  have HA : Hid (At w p a b ((bx w p).alloc (.cells #[.int .i64 a, .int .i64 b] 49))) := At.new w p a b
  unfold writeV outerV
  by_cases hv : p.vl = 0
  · have bv : (p.vl != 0) = false := by simp [hv]
    rw [if_pos hv]
    clear hv HV
    by_cases ht : p.ty = 2048
    · have bt : (p.ty != 2048) = false := by simp [ht]
      rw [if_pos ht]
      clear ht
      go_enter Tryd.func18, Tryd.ntmps18
      go_wp2_with fail
      have hc : ∀ n : GrT ((bx w p).alloc (.cells #[.int .i64 a, .int .i64 b] 49)), Bx n.w w.heap.size p := fun n => (HA.out.next n.h).pk
      refine wp_region_grow (by kernel_rfl) (by kernel_rfl) ?_
      repeat (go_big_quiet_step (first | (go_at_call 33; exact quiet_gr (put6 _ _ (by assumption) (by assumption)))))
      refine wpQuiet_nil ?_
      rintro w1 hw'
      have gw1 := gr_elim hw'
      clear hw'
      have Hw1 := HA.out.next gw1
      clear hc gw1
      obtain ⟨h0, h1, h2, h3, h4, h5, h6, h7, h8, h9, h10⟩ := Hw1.pk
      go_wp2_with fail
      refine (two_any _ _ (by omega) (by omega)).mono ?_
      rintro x w2 ⟨rfl, g2⟩
      have Hw2 := Hw1.next g2
      clear g2 h0 h1 h2 h3 h4 h5 h6 h7 h8 h9 h10
      obtain ⟨h0, h1, h2, h3, h4, h5, h6, h7, h8, h9, h10⟩ := Hw2.pk
      go_wp2_with fail
      clear h0 h1 h2 h3 h4 h5 h6 h7 h8 h9 h10
      have hc : ∀ n : GrT w2, Bx n.w w.heap.size p := fun n => (Hw2.next n.h).pk
      have hs : ∀ n : GrT w2, Sx n.w (w.heap.size + 1) a b := fun n => (Hw2.next n.h).sm
      refine wp_region_grow (by kernel_rfl) (by kernel_rfl) ?_
      repeat (go_big_quiet_step (first | (go_at_call 35; exact quiet_gr (head_any p a _ HO.out a0 a1)) | (go_at_call 36; exact quiet_gr (part_any p b _ HO.out b0 b1))))
      refine wpQuiet_nil ?_
      rintro w4 hw'
      have gw4 := gr_elim hw'
      clear hw'
      have Hw4 := Hw2.next gw4
      clear hc gw4
      go_wp2
      go_ret
      exact ⟨rfl, Hw4.gr⟩
    · have bt : (p.ty != 2048) = true := by simp [ht]
      rw [if_neg ht]
      clear ht
      go_enter Tryd.func18, Tryd.ntmps18
      go_wp2_with fail
      have hc : ∀ n : GrT ((bx w p).alloc (.cells #[.int .i64 a, .int .i64 b] 49)), Bx n.w w.heap.size p := fun n => (HA.out.next n.h).pk
      refine wp_region_grow (by kernel_rfl) (by kernel_rfl) ?_
      repeat (go_big_quiet_step (first | (go_at_call 33; exact quiet_gr (put6 _ _ (by assumption) (by assumption)))))
      refine wpQuiet_nil ?_
      rintro w1 hw'
      have gw1 := gr_elim hw'
      clear hw'
      have Hw1 := HA.out.next gw1
      clear hc gw1
      obtain ⟨h0, h1, h2, h3, h4, h5, h6, h7, h8, h9, h10⟩ := Hw1.pk
      go_wp2_with fail
      refine (two_any _ _ (by omega) (by omega)).mono ?_
      rintro x w2 ⟨rfl, g2⟩
      have Hw2 := Hw1.next g2
      clear g2 h0 h1 h2 h3 h4 h5 h6 h7 h8 h9 h10
      obtain ⟨h0, h1, h2, h3, h4, h5, h6, h7, h8, h9, h10⟩ := Hw2.pk
      go_wp2
      go_ret
      exact ⟨rfl, Hw2.gr⟩
  · have bv : (p.vl != 0) = true := by simp [hv]
    have v0 : 4096 ≤ p.vl := by omega
    have v1 : p.vl ≤ 8191 := by omega
    rw [if_neg hv]
    clear hv HV
    by_cases ht : p.ty = 2048
    · have bt : (p.ty != 2048) = false := by simp [ht]
      rw [if_pos ht]
      clear ht
      go_enter Tryd.func18, Tryd.ntmps18
      go_wp2_with fail
      have hc : ∀ n : GrT ((bx w p).alloc (.cells #[.int .i64 a, .int .i64 b] 49)), Bx n.w w.heap.size p := fun n => (HA.out.next n.h).pk
      refine wp_region_grow (by kernel_rfl) (by kernel_rfl) ?_
      repeat (go_big_quiet_step (first | (go_at_call 33; exact quiet_gr (put6 _ _ (by assumption) (by assumption)))))
      refine wpQuiet_nil ?_
      rintro w1 hw'
      have gw1 := gr_elim hw'
      clear hw'
      have Hw1 := HA.out.next gw1
      clear hc gw1
      obtain ⟨h0, h1, h2, h3, h4, h5, h6, h7, h8, h9, h10⟩ := Hw1.pk
      go_wp2_with fail
      clear h0 h1 h2 h3 h4 h5 h6 h7 h8 h9 h10
      have hc : ∀ n : GrT w1, Bx n.w w.heap.size p := fun n => (Hw1.next n.h).pk
      refine wp_region_grow (by kernel_rfl) (by kernel_rfl) ?_
      repeat (go_big_quiet_step (first | (go_at_call 34; exact quiet_gr (two_any _ _ (by omega) (by omega)))))
      refine wpQuiet_nil ?_
      rintro w3 hw'
      have gw3 := gr_elim hw'
      clear hw'
      have Hw3 := Hw1.next gw3
      clear hc gw3
      obtain ⟨h0, h1, h2, h3, h4, h5, h6, h7, h8, h9, h10⟩ := Hw3.pk
      go_wp2_with fail
      refine (two_any _ _ (by omega) (by omega)).mono ?_
      rintro x w2 ⟨rfl, g2⟩
      have Hw2 := Hw3.next g2
      clear g2 h0 h1 h2 h3 h4 h5 h6 h7 h8 h9 h10
      obtain ⟨h0, h1, h2, h3, h4, h5, h6, h7, h8, h9, h10⟩ := Hw2.pk
      go_wp2_with fail
      clear h0 h1 h2 h3 h4 h5 h6 h7 h8 h9 h10
      have hc : ∀ n : GrT w2, Bx n.w w.heap.size p := fun n => (Hw2.next n.h).pk
      have hs : ∀ n : GrT w2, Sx n.w (w.heap.size + 1) a b := fun n => (Hw2.next n.h).sm
      refine wp_region_grow (by kernel_rfl) (by kernel_rfl) ?_
      repeat (go_big_quiet_step (first | (go_at_call 35; exact quiet_gr (head_any p a _ HO.out a0 a1)) | (go_at_call 36; exact quiet_gr (part_any p b _ HO.out b0 b1))))
      refine wpQuiet_nil ?_
      rintro w4 hw'
      have gw4 := gr_elim hw'
      clear hw'
      have Hw4 := Hw2.next gw4
      clear hc gw4
      go_wp2
      go_ret
      exact ⟨rfl, Hw4.gr⟩
    · have bt : (p.ty != 2048) = true := by simp [ht]
      rw [if_neg ht]
      clear ht
      go_enter Tryd.func18, Tryd.ntmps18
      go_wp2_with fail
      have hc : ∀ n : GrT ((bx w p).alloc (.cells #[.int .i64 a, .int .i64 b] 49)), Bx n.w w.heap.size p := fun n => (HA.out.next n.h).pk
      refine wp_region_grow (by kernel_rfl) (by kernel_rfl) ?_
      repeat (go_big_quiet_step (first | (go_at_call 33; exact quiet_gr (put6 _ _ (by assumption) (by assumption)))))
      refine wpQuiet_nil ?_
      rintro w1 hw'
      have gw1 := gr_elim hw'
      clear hw'
      have Hw1 := HA.out.next gw1
      clear hc gw1
      obtain ⟨h0, h1, h2, h3, h4, h5, h6, h7, h8, h9, h10⟩ := Hw1.pk
      go_wp2_with fail
      clear h0 h1 h2 h3 h4 h5 h6 h7 h8 h9 h10
      have hc : ∀ n : GrT w1, Bx n.w w.heap.size p := fun n => (Hw1.next n.h).pk
      refine wp_region_grow (by kernel_rfl) (by kernel_rfl) ?_
      repeat (go_big_quiet_step (first | (go_at_call 34; exact quiet_gr (two_any _ _ (by omega) (by omega)))))
      refine wpQuiet_nil ?_
      rintro w3 hw'
      have gw3 := gr_elim hw'
      clear hw'
      have Hw3 := Hw1.next gw3
      clear hc gw3
      obtain ⟨h0, h1, h2, h3, h4, h5, h6, h7, h8, h9, h10⟩ := Hw3.pk
      go_wp2_with fail
      refine (two_any _ _ (by omega) (by omega)).mono ?_
      rintro x w2 ⟨rfl, g2⟩
      have Hw2 := Hw3.next g2
      clear g2 h0 h1 h2 h3 h4 h5 h6 h7 h8 h9 h10
      obtain ⟨h0, h1, h2, h3, h4, h5, h6, h7, h8, h9, h10⟩ := Hw2.pk
      go_wp2
      go_ret
      exact ⟨rfl, Hw2.gr⟩

set_option maxHeartbeats 1000000 in
theorem bytesP_any (p : Pk) (w : World) (h : Wf p) (hs : p.data.size ≤ 3000) :
    Calls Tryd.prog 7 #[pkV p] w fun x w' => x = .returned (.tuple #[.string (bytesS p), .int .i64 (bytesE p)]) ∧ Below w.heap.size w w' := by
  unfold bytesS bytesE
  have hal := aheadV_le p
  have HW : Hid (Wf p) := h
  clear h
  cases hr : rightB p
  · rw [if_neg (by simp), if_neg (by simp)]
    go_enter Tryd.func7, Tryd.ntmps7
    go_wp2_with fail
    refine (rightP_any p _).mono ?_
    rintro x w1 ⟨rfl, g1⟩
    go_wp2_with fail
    go_ret2
    exact ⟨rfl, btr (by go_grown) g1 (by simp)⟩
  · have HO : Hid (Ok p) := Ok.of_right HW.out hr hs
    rw [if_pos rfl]
    have hs' : (p.data.size : Int) ≤ 3000 := by omega
    by_cases hg : aheadV p + p.data.size ≤ 1500
    · rw [if_pos ⟨rfl, hg⟩, if_pos hg]
      have hg' : ¬ (1500 : Int) - (aheadV p : Int) < (p.data.size : Int) := by omega
      go_enter Tryd.func7, Tryd.ntmps7
      go_wp2_with fail
      refine (rightP_any p _).mono ?_
      rintro x w1 ⟨rfl, g1⟩
      have hb := (Bx.new w p).below (by simp) g1
      have hl : w.heap.size < w1.heap.size := Nat.lt_of_lt_of_le (by simp) g1.size
      have gw : Below w.heap.size w w1 := btr (by go_grown) g1 (by simp)
      clear g1
      have HB : Hid (Bx w1 w.heap.size p) := hb
      obtain ⟨h0, h1, h2, h3, h4, h5, h6, h7, h8, h9, h10⟩ := hb
      go_wp2_with fail
      clear h0 h1 h2 h3 h4 h5 h6 h7 h8 h9 h10
      have hc : ∀ n : GrT w1, Bx n.w w.heap.size p := fun n => HB.out.below hl n.h
      refine wp_region_grow (by kernel_rfl) (by kernel_rfl) ?_
      repeat (go_big_quiet_step (first | (go_at_call 17; exact quiet_gr (ahead_any p _))))
      refine wpQuiet_nil ?_
      rintro w2 hw'
      have g2 := gr_elim hw'
      clear hw'
      have hb2 : Bx w2 w.heap.size p := hc (some ⟨_, g2⟩)
      have HB2 : Hid (Bx w2 w.heap.size p) := hb2
      have hl2 : w.heap.size < w2.heap.size := Nat.lt_of_lt_of_le hl g2.size
      clear hc hb2
      go_wp2_with fail
      have hc : ∀ n : GrT w2, Bx n.w w.heap.size p := fun n => HB2.out.below hl2 n.h
      refine wp_region_grow (by kernel_rfl) (by kernel_rfl) ?_
      have hA := sumA_le p
      have hB := sumB_le p
      repeat (go_big_quiet_step (first | (go_at_call 19; exact quiet_gr (sumsOf_any p _ HO.out)) | (go_at_call 18; exact quiet_gr (write_any p _ _ _ HO.out (by omega) (by omega) (by omega) (by omega)))))
      refine wpQuiet_nil ?_
      rintro w3 hw'
      have g3 := gr_elim hw'
      clear hw'
      go_wp2
      go_ret2
      exact ⟨rfl, btr (btr gw g2 (Nat.le_refl _)) g3 (Nat.le_refl _)⟩
    · rw [if_neg (fun x => hg x.2), if_neg hg]
      have hg' : (1500 : Int) - (aheadV p : Int) < (p.data.size : Int) := by omega
      go_enter Tryd.func7, Tryd.ntmps7
      go_wp2_with fail
      refine (rightP_any p _).mono ?_
      rintro x w1 ⟨rfl, g1⟩
      have hb := (Bx.new w p).below (by simp) g1
      have hl : w.heap.size < w1.heap.size := Nat.lt_of_lt_of_le (by simp) g1.size
      have gw : Below w.heap.size w w1 := btr (by go_grown) g1 (by simp)
      clear g1
      have HB : Hid (Bx w1 w.heap.size p) := hb
      obtain ⟨h0, h1, h2, h3, h4, h5, h6, h7, h8, h9, h10⟩ := hb
      go_wp2_with fail
      clear h0 h1 h2 h3 h4 h5 h6 h7 h8 h9 h10
      have hc : ∀ n : GrT w1, Bx n.w w.heap.size p := fun n => HB.out.below hl n.h
      refine wp_region_grow (by kernel_rfl) (by kernel_rfl) ?_
      repeat (go_big_quiet_step (first | (go_at_call 17; exact quiet_gr (ahead_any p _))))
      refine wpQuiet_nil ?_
      rintro w2 hw'
      have g2 := gr_elim hw'
      clear hw'
      clear hc
      go_wp2_with fail
      go_ret2
      exact ⟨rfl, btr gw g2 (Nat.le_refl _)⟩
end Go.Proofs.YtmlonfchbkmbcabDoor.Fr
