/-
  What the document's own 'sums', 'with' and 'Bytes' answer.
-/
import Derived.Test.YtldbbbhoemnlmaaRefW
import Derived.Test.YtldbbbhoemnlmaaRefR
namespace Go.Proofs.Ytldbbbhoemnlmaa
open Go.ChangeShapes Go.WideShapes Go.ChangeAt Go.RowKit

theorem ret_two {a b c d : Int} (h : a = c) (k : b = d) : Ending.returned (.tuple #[.int .i64 a, .int .i64 b]) = .returned (.tuple #[.int .i64 c, .int .i64 d]) := by rw [h, k]
def pseudoN (p : Pk) : ByteArray := pb p.src 4 ++ pb p.dst 4 ++ (⟨#[0]⟩ : ByteArray) ++ pb p.pro 1 ++ pb (partZ p : Int) 2 ++ partV p 0
theorem pseudoN_eq (p : Pk) (h0 : 0 ≤ p.pro) (h1 : p.pro ≤ 255) : pseudoN p = pseudoV p := by
  have e : ∀ x y : ByteArray, x.data.toList = y.data.toList → x = y := fun x y h => by cases x; cases y; simpa using h
  have q : pb p.pro 2 = (⟨#[0]⟩ : ByteArray) ++ pb p.pro 1 := by
    have d : p.pro / 256 = 0 := by omega
    apply e; simp [pb, strOfNums, pieces, d]
  unfold pseudoN pseudoV addrV
  rw [q]; simp only [ap_as]
theorem pseudoN_size (p : Pk) : (pseudoN p).size = 12 + partZ p := by
  simp only [pseudoN, ByteArray.size_append, pb_size, partV_size]; rfl
def rsumB (p : Pk) : Nat := fixV p (sumV (pseudoV p).data.toList)

set_option maxHeartbeats 1000000 in
theorem rsums_any (p : Pk) (w : World) (h : Ok p) :
    Calls Try.prog 19 #[pkV p] w fun x w' => x = .returned (.tuple #[.int .i64 (headSumV p), .int .i64 (rsumB p)]) ∧ Below w.heap.size w w' := by
  have hz : ∀ n k, (pb n k).size = k := pb_size
  have HO : Hid (Ok p) := h
  have hp0 := h.pro0
  have hp1 := h.pro1
  have s0 := h.src0
  have s1 := h.src1
  have d0 := h.dst0
  have d1 := h.dst1
  have hq : (partZ p : Int) ≤ 3020 := by have := h.sz; have := partA_le p; unfold partZ; omega
  have hps := partV_size p 0
  have hpi : ((partV p 0).size : Int) = (partZ p : Int) := by rw [hps]
  have H35 : Hid (∀ w, Calls Try.prog 35 #[.string (headN p (20 + (partZ p : Int)) 0)] w fun x w' => x = .returned (.int .i64 (headSumV p)) ∧ w' = w) := by
    unfold Hid; intro w
    have := refSum_any (headV p 0) w (by rw [headV_size]; omega)
    rw [headN_eq]; exact this
  unfold rsumB fixV
  have hN := sumV_le (pseudoV p).data.toList
  have H36 : ∀ w, Calls Try.prog 35 #[.string (pseudoN p)] w fun x w' => x = .returned (.int .i64 (sumV (pseudoV p).data.toList)) ∧ w' = w := by
    intro w
    have := refSum_any (pseudoV p) w (by rw [pseudoV_size]; omega)
    rw [pseudoN_eq p hp0 hp1]; exact this
  generalize sumV (pseudoV p).data.toList = N at *
  have HS : Hid (∀ w, Calls Try.prog 35 #[.string (pseudoN p)] w fun x w' => x = .returned (.int .i64 N) ∧ w' = w) := H36
  clear H36 h
  go_enter Try.func19, Try.ntmps19
  go_wp2_with fail
  refine (rpart_any p 0 _ HO.out (by omega) (by omega)).mono ?_
  rintro x w1 ⟨rfl, g1⟩
  have B1 := (Bx.new w p).below (by simp) g1
  have L1 : w.heap.size < w1.heap.size := Nat.lt_of_lt_of_le (by simp) g1.size
  have G1 : Below w.heap.size w w1 := btr (by go_grown) g1 (by simp)
  clear g1
  have HB1 : Hid (Bx w1 w.heap.size p) := B1
  obtain ⟨h0, h1, h2, h3, h4, h5, h6, h7, h8, h9, h10⟩ := B1
  go_wp2_with fail
  refine (rhead_any p _ 0 _ HO.out (by omega) (by omega) (by omega) (by omega)).mono ?_
  rintro x w2 ⟨rfl, g2⟩
  have B2 := HB1.out.below L1 g2
  have L2 : w.heap.size < w2.heap.size := Nat.lt_of_lt_of_le L1 g2.size
  have G2 := btr G1 g2 (Nat.le_refl _)
  clear g2 h0 h1 h2 h3 h4 h5 h6 h7 h8 h9 h10
  go_wp2_with fail
  refine (H35.out _).mono ?_
  rintro x w3 ⟨rfl, rfl⟩
  have HB2 : Hid (Bx w3 w.heap.size p) := B2
  obtain ⟨h0, h1, h2, h3, h4, h5, h6, h7, h8, h9, h10⟩ := B2
  go_wp2_with fail
  clear h0 h1 h2 h3 h4 h5 h6 h7 h8 h9 h10
  have hc : ∀ n : GrT w3, Bx n.w w.heap.size p := fun n => HB2.out.below L2 n.h
  refine wp_region_grow (by kernel_rfl) (by kernel_rfl) ?_
  repeat (go_big_quiet_step (first
    | (go_at_call_of 37 (Value.int IntKind.i64 2); exact quiet_gr (rp2 _ _ (by omega) (by omega)))
    | (go_at_call_of 37 (Value.int IntKind.i64 1); exact quiet_gr (rp1 _ _ (by omega) (by omega)))
    | (go_at_call_of 37 (Value.int IntKind.i64 4); exact quiet_gr (rp4 _ _ (by omega) (by omega)))
    | (go_at_call 35; exact quiet_gs (HS.out _))))
  refine wpQuiet_nil ?_
  rintro w4 hw'
  have g4 := gr_elim hw'
  have B4 := HB2.out.below L2 g4
  clear hw' hc
  obtain ⟨h0, h1, h2, h3, h4, h5, h6, h7, h8, h9, h10⟩ := B4
  clear hz hps hpi
  go_wp2
  all_goals
    go_ret2
    exact ⟨ret_two rfl (by simp_all), btr G2 g4 (Nat.le_refl _)⟩

/-- The first part, as it is put together there. -/
def outerN (p : Pk) : ByteArray :=
  (if p.vl = 0 then pb p.to 6 ++ pb p.fr 6 else pb p.to 6 ++ pb p.fr 6 ++ (⟨#[129, 0]⟩ : ByteArray) ++ pb (p.vl - 4096) 2) ++ pb p.ty 2
theorem outerN_eq (p : Pk) : outerN p = outerV p := by
  have e : ∀ x y : ByteArray, x.data.toList = y.data.toList → x = y := fun x y h => by cases x; cases y; simpa using h
  have f1 : pb 33024 2 = (⟨#[129, 0]⟩ : ByteArray) := by apply e; rfl
  unfold outerN outerV
  split
  · rfl
  · rw [f1]; simp only [ap_as]

set_option maxHeartbeats 2000000 in
theorem rwith_any (p : Pk) (a b : Int) (w : World) (h : Ok p) (a0 : 0 ≤ a) (a1 : a ≤ 65535) (b0 : 0 ≤ b) (b1 : b ≤ 65535) :
    Calls Try.prog 20 #[pkV p, .int .i64 a, .int .i64 b] w fun x w' => x = .returned (.string (writeV p a b)) ∧ Below w.heap.size w w' := by
  have hz : ∀ n k, (pb n k).size = k := pb_size
  have hhs := headN_size p (20 + (partZ p : Int)) a
  have hps := partV_size p b
  have hpi : ((partV p b).size : Int) = (partZ p : Int) := by rw [hps]
  have HO : Hid (Ok p) := h
  have t0 := h.to0
  have t1 := h.to1
  have f0 := h.fr0
  have f1 := h.fr1
  have y0 := h.ty0
  have y1 := h.ty1
  have hd : (p.data.size : Int) ≤ 3000 := by have := h.sz; omega
  have hq : (partZ p : Int) ≤ 3020 := by have := h.sz; have := partA_le p; unfold partZ; omega
  have HV := h.vl
  clear h
  unfold writeV
  rw [← outerN_eq]
  unfold outerN
  by_cases hv : p.vl = 0
  · have bv : (p.vl != 0) = false := by simp [hv]
    rw [if_pos hv]
    clear hv HV
    by_cases ht : p.ty = 2048
    · have bt : (p.ty != 2048) = false := by simp [ht]
      rw [if_pos ht]
      clear ht
      go_enter Try.func20, Try.ntmps20
      go_wp2
      have hc : ∀ n : GrT (bx w p), Bx n.w w.heap.size p := fun n => (Bx.new w p).below (by simp) n.h
      refine wp_region_grow (by kernel_rfl) (by kernel_rfl) ?_
      repeat (go_big_quiet_step (first | (go_at_call 37; exact quiet_gr (rp6 _ _ (by omega) (by omega)))))
      refine wpQuiet_nil ?_
      rintro w1 hw'
      have g1 := gr_elim hw'
      have B1 := (Bx.new w p).below (by simp) g1
      have L1 : w.heap.size < w1.heap.size := Nat.lt_of_lt_of_le (by simp) g1.size
      have G1 : Below w.heap.size w w1 := btr (by go_grown) g1 (by simp)
      clear hw' hc g1
      obtain ⟨h0, h1, h2, h3, h4, h5, h6, h7, h8, h9, h10⟩ := id B1
      go_wp2_with fail
      refine (rp2 _ _ (by omega) (by omega)).mono ?_
      rintro x w2 ⟨rfl, g2⟩
      have B2 := B1.below L1 g2
      have L2 : w.heap.size < w2.heap.size := Nat.lt_of_lt_of_le L1 g2.size
      have G2 := btr G1 g2 (Nat.le_refl _)
      clear g2 B1 L1 h0 h1 h2 h3 h4 h5 h6 h7 h8 h9 h10
      obtain ⟨h0, h1, h2, h3, h4, h5, h6, h7, h8, h9, h10⟩ := id B2
      go_wp2_with fail
      refine (rpart_any p b _ HO.out b0 b1).mono ?_
      rintro x w3 ⟨rfl, g3⟩
      have B3 := B2.below L2 g3
      have L3 : w.heap.size < w3.heap.size := Nat.lt_of_lt_of_le L2 g3.size
      have G3 := btr G2 g3 (Nat.le_refl _)
      clear g3 B2 L2 h0 h1 h2 h3 h4 h5 h6 h7 h8 h9 h10
      obtain ⟨h0, h1, h2, h3, h4, h5, h6, h7, h8, h9, h10⟩ := id B3
      go_wp2_with fail
      refine (rhead_any p _ a _ HO.out (by omega) (by omega) a0 a1).mono ?_
      rintro x w4 ⟨rfl, g4⟩
      have B4 := B3.below L3 g4
      have L4 : w.heap.size < w4.heap.size := Nat.lt_of_lt_of_le L3 g4.size
      have G4 := btr G3 g4 (Nat.le_refl _)
      clear g4 B3 L3 h0 h1 h2 h3 h4 h5 h6 h7 h8 h9 h10
      go_wp2_with fail
      go_ret
      exact ⟨ret_str (by rw [← headN_eq]), G4⟩
    · have bt : (p.ty != 2048) = true := by simp [ht]
      rw [if_neg ht]
      clear ht
      go_enter Try.func20, Try.ntmps20
      go_wp2
      have hc : ∀ n : GrT (bx w p), Bx n.w w.heap.size p := fun n => (Bx.new w p).below (by simp) n.h
      refine wp_region_grow (by kernel_rfl) (by kernel_rfl) ?_
      repeat (go_big_quiet_step (first | (go_at_call 37; exact quiet_gr (rp6 _ _ (by omega) (by omega)))))
      refine wpQuiet_nil ?_
      rintro w1 hw'
      have g1 := gr_elim hw'
      have B1 := (Bx.new w p).below (by simp) g1
      have L1 : w.heap.size < w1.heap.size := Nat.lt_of_lt_of_le (by simp) g1.size
      have G1 : Below w.heap.size w w1 := btr (by go_grown) g1 (by simp)
      clear hw' hc g1
      obtain ⟨h0, h1, h2, h3, h4, h5, h6, h7, h8, h9, h10⟩ := id B1
      go_wp2_with fail
      refine (rp2 _ _ (by omega) (by omega)).mono ?_
      rintro x w2 ⟨rfl, g2⟩
      have B2 := B1.below L1 g2
      have L2 : w.heap.size < w2.heap.size := Nat.lt_of_lt_of_le L1 g2.size
      have G2 := btr G1 g2 (Nat.le_refl _)
      clear g2 B1 L1 h0 h1 h2 h3 h4 h5 h6 h7 h8 h9 h10
      obtain ⟨h0, h1, h2, h3, h4, h5, h6, h7, h8, h9, h10⟩ := id B2
      go_wp2_with fail
      go_ret
      exact ⟨rfl, G2⟩
  · have bv : (p.vl != 0) = true := by simp [hv]
    have v0 : 4096 ≤ p.vl := by omega
    have v1 : p.vl ≤ 8191 := by omega
    rw [if_neg hv]
    clear hv HV
    by_cases ht : p.ty = 2048
    · have bt : (p.ty != 2048) = false := by simp [ht]
      rw [if_pos ht]
      clear ht
      go_enter Try.func20, Try.ntmps20
      go_wp2
      have hc : ∀ n : GrT (bx w p), Bx n.w w.heap.size p := fun n => (Bx.new w p).below (by simp) n.h
      refine wp_region_grow (by kernel_rfl) (by kernel_rfl) ?_
      repeat (go_big_quiet_step (first | (go_at_call 37; exact quiet_gr (rp6 _ _ (by omega) (by omega)))))
      refine wpQuiet_nil ?_
      rintro w1 hw'
      have g1 := gr_elim hw'
      have B1 := (Bx.new w p).below (by simp) g1
      have L1 : w.heap.size < w1.heap.size := Nat.lt_of_lt_of_le (by simp) g1.size
      have G1 : Below w.heap.size w w1 := btr (by go_grown) g1 (by simp)
      clear hw' hc g1
      obtain ⟨h0, h1, h2, h3, h4, h5, h6, h7, h8, h9, h10⟩ := id B1
      go_wp2_with fail
      refine (rp2 _ _ (by omega) (by omega)).mono ?_
      rintro x w2 ⟨rfl, g2⟩
      have B2 := B1.below L1 g2
      have L2 : w.heap.size < w2.heap.size := Nat.lt_of_lt_of_le L1 g2.size
      have G2 := btr G1 g2 (Nat.le_refl _)
      clear g2 B1 L1 h0 h1 h2 h3 h4 h5 h6 h7 h8 h9 h10
      obtain ⟨h0, h1, h2, h3, h4, h5, h6, h7, h8, h9, h10⟩ := id B2
      go_wp2_with fail
      refine (rp2 _ _ (by omega) (by omega)).mono ?_
      rintro x w3 ⟨rfl, g3⟩
      have B3 := B2.below L2 g3
      have L3 : w.heap.size < w3.heap.size := Nat.lt_of_lt_of_le L2 g3.size
      have G3 := btr G2 g3 (Nat.le_refl _)
      clear g3 B2 L2 h0 h1 h2 h3 h4 h5 h6 h7 h8 h9 h10
      obtain ⟨h0, h1, h2, h3, h4, h5, h6, h7, h8, h9, h10⟩ := id B3
      go_wp2_with fail
      refine (rpart_any p b _ HO.out b0 b1).mono ?_
      rintro x w4 ⟨rfl, g4⟩
      have B4 := B3.below L3 g4
      have L4 : w.heap.size < w4.heap.size := Nat.lt_of_lt_of_le L3 g4.size
      have G4 := btr G3 g4 (Nat.le_refl _)
      clear g4 B3 L3 h0 h1 h2 h3 h4 h5 h6 h7 h8 h9 h10
      obtain ⟨h0, h1, h2, h3, h4, h5, h6, h7, h8, h9, h10⟩ := id B4
      go_wp2_with fail
      refine (rhead_any p _ a _ HO.out (by omega) (by omega) a0 a1).mono ?_
      rintro x w5 ⟨rfl, g5⟩
      have B5 := B4.below L4 g5
      have L5 : w.heap.size < w5.heap.size := Nat.lt_of_lt_of_le L4 g5.size
      have G5 := btr G4 g5 (Nat.le_refl _)
      clear g5 B4 L4 h0 h1 h2 h3 h4 h5 h6 h7 h8 h9 h10
      go_wp2_with fail
      go_ret
      exact ⟨ret_str (by rw [← headN_eq]), G5⟩
    · have bt : (p.ty != 2048) = true := by simp [ht]
      rw [if_neg ht]
      clear ht
      go_enter Try.func20, Try.ntmps20
      go_wp2
      have hc : ∀ n : GrT (bx w p), Bx n.w w.heap.size p := fun n => (Bx.new w p).below (by simp) n.h
      refine wp_region_grow (by kernel_rfl) (by kernel_rfl) ?_
      repeat (go_big_quiet_step (first | (go_at_call 37; exact quiet_gr (rp6 _ _ (by omega) (by omega)))))
      refine wpQuiet_nil ?_
      rintro w1 hw'
      have g1 := gr_elim hw'
      have B1 := (Bx.new w p).below (by simp) g1
      have L1 : w.heap.size < w1.heap.size := Nat.lt_of_lt_of_le (by simp) g1.size
      have G1 : Below w.heap.size w w1 := btr (by go_grown) g1 (by simp)
      clear hw' hc g1
      obtain ⟨h0, h1, h2, h3, h4, h5, h6, h7, h8, h9, h10⟩ := id B1
      go_wp2_with fail
      refine (rp2 _ _ (by omega) (by omega)).mono ?_
      rintro x w2 ⟨rfl, g2⟩
      have B2 := B1.below L1 g2
      have L2 : w.heap.size < w2.heap.size := Nat.lt_of_lt_of_le L1 g2.size
      have G2 := btr G1 g2 (Nat.le_refl _)
      clear g2 B1 L1 h0 h1 h2 h3 h4 h5 h6 h7 h8 h9 h10
      obtain ⟨h0, h1, h2, h3, h4, h5, h6, h7, h8, h9, h10⟩ := id B2
      go_wp2_with fail
      refine (rp2 _ _ (by omega) (by omega)).mono ?_
      rintro x w3 ⟨rfl, g3⟩
      have B3 := B2.below L2 g3
      have L3 : w.heap.size < w3.heap.size := Nat.lt_of_lt_of_le L2 g3.size
      have G3 := btr G2 g3 (Nat.le_refl _)
      clear g3 B2 L2 h0 h1 h2 h3 h4 h5 h6 h7 h8 h9 h10
      obtain ⟨h0, h1, h2, h3, h4, h5, h6, h7, h8, h9, h10⟩ := id B3
      go_wp2_with fail
      go_ret
      exact ⟨rfl, G3⟩
end Go.Proofs.Ytldbbbhoemnlmaa
