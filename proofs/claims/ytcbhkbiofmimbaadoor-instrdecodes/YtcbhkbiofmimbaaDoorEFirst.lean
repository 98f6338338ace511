/-
  What instr's read answers of any part; what place and firstSize answer, as contracts.
-/
import Derived.Test.YtcbhkbiofmimbaaDoorERead
namespace Go.Proofs.YtcbhkbiofmimbaaDoor
open Go.ChangeShapes Go.WideShapes Go.ChangeAt Go.RowKit

theorem readX_any (p : Int) (d : ByteArray) (x : En) (w : World) (h : EW w x) (hd : Cd w) (hs : d.size ≤ maxLen) (h8 : 8 ≤ d.size) :
    Calls Tryd.prog 38 #[.int .i64 p, .string d, enV x] w fun e w' => ∃ y : En, e = .returned (enV y) ∧ y.sp = readX p d x.sp ∧ (y.pri = x.pri ∧ y.ta = x.ta ∧ y.tl = x.tl ∧ y.tc = x.tc) ∧ EW w' y ∧ (∀ B, B ≤ w.heap.size → EF B w x → EF B w' y) ∧ Below w.heap.size w w' := by
  rcases part_cases p with rfl | rfl | rfl | rfl | rfl | rfl | ⟨b1, b2, b3, b4, b5, b6, _⟩
  · exact readX_6 d x w h hd hs h8
  · exact readX_4 d x w h hd hs h8
  · exact readX_5 d x w h hd hs h8
  · exact readX_3 d x w h hd hs h8
  · exact readX_2 d x w h hd hs h8
  · exact readX_1 d x w h hd hs h8
  · exact readX_n p b1 b2 b3 b4 b5 b6 d x w h hd hs h8
theorem readX_ok (p : Int) (d : ByteArray) {s : Sp} (o : SOk s) : SOk (readX p d s) := by
  have n4 : 0 ≤ (rs4 d).num 4 ∧ (rs4 d).num 4 < 4294967296 := by simpa using RS.num_lt (rs4 d) 4 (by omega)
  have n1 : 0 ≤ (rs4 d).num 1 ∧ (rs4 d).num 1 < 256 := by simpa using RS.num_lt (rs4 d) 1 (by omega)
  have n8 : 0 ≤ ((rs4 d).skip 4).num 8 ∧ ((rs4 d).skip 4).num 8 < 18446744073709551616 := by simpa using RS.num_lt ((rs4 d).skip 4) 8 (by omega)
  have m8 : 0 ≤ (((rs4 d).skip 4).skip 8).num 8 ∧ (((rs4 d).skip 4).skip 8).num 8 < 18446744073709551616 := by simpa using RS.num_lt (((rs4 d).skip 4).skip 8) 8 (by omega)
  obtain ⟨m0, m1, g0, g1, t0, t1, k0, k1⟩ := o
  unfold readX
  generalize (((rs4 d).skip 4).skip 8).num 8 = v1 at *
  generalize ((rs4 d).skip 4).num 8 = v2 at *
  generalize (rs4 d).num 4 = v3 at *
  generalize (rs4 d).num 1 = v4 at *
  split
  · exact ⟨n4.1, n4.2, g0, g1, t0, t1, k0, k1⟩
  split
  · exact ⟨m0, m1, g0, g1, t0, t1, k0, k1⟩
  split
  · exact ⟨m0, m1, g0, g1, t0, t1, k0, k1⟩
  split
  · exact ⟨m0, m1, g0, g1, t0, t1, k0, k1⟩
  split
  · exact ⟨m0, m1, g0, g1, n8.1, n8.2, m8.1, m8.2⟩
  split
  · exact ⟨m0, m1, n1.1, n1.2, t0, t1, k0, k1⟩
  · exact ⟨m0, m1, g0, g1, t0, t1, k0, k1⟩
theorem place_n {p : Int} (b1 : (p == 6) = false) (b2 : (p == 4) = false) (b3 : (p == 5) = false) (b4 : (p == 3) = false) (b5 : (p == 2) = false) (b6 : (p == 1) = false) : placeX p = 0 := by
  simp at b1 b2 b3 b4 b5 b6
  simp [placeX, b1, b2, b3, b4, b5, b6]
set_option maxRecDepth 20000 in
set_option maxHeartbeats 4000000 in
theorem placeX_any (p : Int) (w : World) (hd : Cd w) : Calls Tryd.prog 39 #[.int .i64 p] w fun e w' => e = .returned (.int .i64 (placeX p)) ∧ Below w.heap.size w w' := by
  obtain ⟨ct, cfr, hd⟩ := hd.order
  have x0 : ∀ w, (Instr.index 42 (.agg orderA) (.int .i64 0)).run Tryd.prog w = .ok (.int .i64 6) w := idxO 0 (by omega)
  have x1 : ∀ w, (Instr.index 42 (.agg orderA) (.int .i64 1)).run Tryd.prog w = .ok (.int .i64 4) w := idxO 1 (by omega)
  have x2 : ∀ w, (Instr.index 42 (.agg orderA) (.int .i64 2)).run Tryd.prog w = .ok (.int .i64 5) w := idxO 2 (by omega)
  have x3 : ∀ w, (Instr.index 42 (.agg orderA) (.int .i64 3)).run Tryd.prog w = .ok (.int .i64 3) w := idxO 3 (by omega)
  have x4 : ∀ w, (Instr.index 42 (.agg orderA) (.int .i64 4)).run Tryd.prog w = .ok (.int .i64 2) w := idxO 4 (by omega)
  have x5 : ∀ w, (Instr.index 42 (.agg orderA) (.int .i64 5)).run Tryd.prog w = .ok (.int .i64 1) w := idxO 5 (by omega)
  rcases part_cases p with rfl | rfl | rfl | rfl | rfl | rfl | ⟨b1, b2, b3, b4, b5, b6, _⟩
  case inr.inr.inr.inr.inr.inr =>
    rw [place_n b1 b2 b3 b4 b5 b6]
    have a1 : ((6 : Int) == p) = false := by simp at b1 ⊢; omega
    have a2 : ((4 : Int) == p) = false := by simp at b2 ⊢; omega
    have a3 : ((5 : Int) == p) = false := by simp at b3 ⊢; omega
    have a4 : ((3 : Int) == p) = false := by simp at b4 ⊢; omega
    have a5 : ((2 : Int) == p) = false := by simp at b5 ⊢; omega
    have a6 : ((1 : Int) == p) = false := by simp at b6 ⊢; omega
    clear b1 b2 b3 b4 b5 b6
    go_enter Tryd.func39, Tryd.ntmps39
    go_wp2_with (refine wpList_load_row rfl 42 (.global 0) rfl 0 rfl ct orderA cfr _ hd Tryd.underlying42 rfl (by kernel_rfl) ?_)
    clear hd
    go_rounds 7
    go_ret
    exact ⟨rfl, by go_grown⟩
  all_goals
    go_enter Tryd.func39, Tryd.ntmps39
    go_wp2_with (refine wpList_load_row rfl 42 (.global 0) rfl 0 rfl ct orderA cfr _ hd Tryd.underlying42 rfl (by kernel_rfl) ?_)
    clear hd
    go_rounds 7
    go_ret
    exact ⟨rfl, by go_grown⟩
/-- How many bytes the first part has, or what is wrong. -/
def fszE (d : ByteArray) : Int := if d.size < 4 then 10 else if (d.size : Int) < sizeV d then 10 else if sizeV d < 8 then 11 else 0
def fszZ (d : ByteArray) : Int := if fszE d = 0 then sizeV d else 0
set_option maxHeartbeats 4000000 in
theorem fsz_any (d : ByteArray) (w : World) (hs : d.size ≤ maxLen) : Calls Tryd.prog 35 #[.string d] w fun e w' => e = .returned (.tuple #[.int .i64 (fszZ d), .int .i64 (fszE d)]) ∧ Below w.heap.size w w' := by
  by_cases h : d.size < 4
  · have e1 : fszE d = 10 := by unfold fszE; rw [if_pos h]
    have e2 : fszZ d = 0 := by unfold fszZ; rw [e1]; rfl
    rw [e1, e2]
    have h' : (d.size : Int) < 4 := by omega
    clear h e1 e2
    go_enter Tryd.func35, Tryd.ntmps35
    go_wp2_with fail
    go_ret2
    exact ⟨rfl, Below.refl _ _⟩
  · have h' : ¬ ((d.size : Int) < 4) := by omega
    obtain ⟨z0, z1⟩ := sizeV_range d
    have hx : (d.extract 2 4).size ≤ maxLen := by rw [ByteArray.size_extract]; omega
    have hsl : ∀ w, (Instr.slice 9 (.string d) (some (.int .i64 2)) (some (.int .i64 4)) none).run Tryd.prog w = .ok (.string (d.extract 2 4)) w := fun w => slice_lh d 2 4 (by omega) (by omega) (by omega) w
    have HR : Hid (Calls Tryd.prog 36 #[.string (d.extract 2 4)] w fun x w' => x = .returned (.pointer (some ⟨w.heap.size, 0, none⟩)) ∧ Rd w' w.heap.size (d.extract 2 4) 0 ∧ Below w.heap.size w w' ∧ w'.heap.size = w.heap.size + 1) := rd_any (d.extract 2 4) w
    have HN : Hid (∀ w1 b, Rd w1 b (d.extract 2 4) 0 → Calls Tryd.prog 37 #[.pointer (some ⟨b, 0, none⟩), .int .i64 2] w1 fun x w' => x = .returned (.int .u64 (sizeV d)) ∧ Only b w1 w') := (show ∀ w1 b, _ from fun w1 b r => by
      refine (numR b ⟨d.extract 2 4, 0⟩ 2 w1 hx r).mono ?_
      rintro x w' ⟨rfl, _, o⟩
      exact ⟨rfl, o⟩)
    have HE : Hid (fszE d = if (d.size : Int) < sizeV d then 10 else if sizeV d < 8 then 11 else 0) := (show _ = _ by unfold fszE; rw [if_neg h])
    have HZ : Hid (fszZ d = if fszE d = 0 then sizeV d else 0) := (show _ = _ from rfl)
    clear hs h hx
    generalize d.extract 2 4 = X at *
    generalize fszE d = FE at *
    generalize fszZ d = FZ at *
    generalize sizeV d = Z at *
    by_cases h2 : (d.size : Int) < Z
    · have e1 := HE.out
      rw [if_pos h2] at e1
      have e2 := HZ.out
      rw [if_neg (by omega)] at e2
      subst e1 e2
      clear HE HZ
      go_enter Tryd.func35, Tryd.ntmps35
      go_wp2_with fail
      refine HR.out.mono ?_
      rintro x w1 ⟨rfl, r1, g1, s1⟩
      go_wp2_with fail
      refine (HN.out _ _ r1).mono ?_
      rintro x w2 ⟨rfl, o2⟩
      have G2 : Below w.heap.size w w2 := o2.below (Nat.le_refl _) g1
      go_wp2_with fail
      go_ret2
      exact ⟨rfl, G2⟩
    · by_cases h3 : Z < 8
      · have e1 := HE.out
        rw [if_neg h2, if_pos h3] at e1
        have e2 := HZ.out
        rw [if_neg (by omega)] at e2
        subst e1 e2
        clear HE HZ
        go_enter Tryd.func35, Tryd.ntmps35
        go_wp2_with fail
        refine HR.out.mono ?_
        rintro x w1 ⟨rfl, r1, g1, s1⟩
        go_wp2_with fail
        refine (HN.out _ _ r1).mono ?_
        rintro x w2 ⟨rfl, o2⟩
        have G2 : Below w.heap.size w w2 := o2.below (Nat.le_refl _) g1
        go_wp2_with fail
        go_ret2
        exact ⟨rfl, G2⟩
      · have e1 := HE.out
        rw [if_neg h2, if_neg h3] at e1
        have e2 := HZ.out
        rw [if_pos e1] at e2
        subst e1 e2
        clear HE HZ
        go_enter Tryd.func35, Tryd.ntmps35
        go_wp2_with fail
        refine HR.out.mono ?_
        rintro x w1 ⟨rfl, r1, g1, s1⟩
        go_wp2_with fail
        refine (HN.out _ _ r1).mono ?_
        rintro x w2 ⟨rfl, o2⟩
        have G2 : Below w.heap.size w w2 := o2.below (Nat.le_refl _) g1
        go_wp2_with fail
        go_ret2
        exact ⟨rfl, G2⟩
end Go.Proofs.YtcbhkbiofmimbaaDoor
