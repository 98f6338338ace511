/-
  What decodeFirst answers, as a contract.
-/
import Derived.Test.YtcbhkbiofmimbaaDoorReadA
import Derived.Test.YtcbhkbiofmimbaaDoorEnc
import Derived.Laws.DeepStrings4
namespace Go.Proofs.YtcbhkbiofmimbaaDoor
open Go.ChangeShapes Go.WideShapes Go.ChangeAt Go.RowKit
theorem slice_lh (s : ByteArray) (i j : Int) (h0 : 0 ≤ i) (h1 : i ≤ j) (h2 : j ≤ s.size) (w : World) : (Instr.slice 9 (.string s) (some (.int .i64 i)) (some (.int .i64 j)) none).run Tryd.prog w = .ok (.string (s.extract i.toNat j.toNat)) w := by
  rw [run_slice_string_if (h := Tryd.underlying9), if_pos ⟨by omega, h2⟩, if_pos ⟨h0, h1⟩]
theorem slice_h (s : ByteArray) (j : Int) (h0 : 0 ≤ j) (h2 : j ≤ s.size) (w : World) : (Instr.slice 9 (.string s) none (some (.int .i64 j)) none).run Tryd.prog w = .ok (.string (s.extract 0 j.toNat)) w :=
  by rw [run_slice_string_h (ht := Tryd.underlying9) (h0 := h0) (h2 := h2)]
theorem slice_l (s : ByteArray) (j : Int) (h0 : 0 ≤ j) (h2 : j ≤ s.size) (w : World) : (Instr.slice 9 (.string s) (some (.int .i64 j)) none none).run Tryd.prog w = .ok (.string (s.extract j.toNat s.size)) w :=
  by rw [run_slice_string_l (ht := Tryd.underlying9) (h0 := h0) (h1 := h2)]
theorem resT3 {fn : Func} {k u v : Tmp} (h : fn.results = #[.cell k 54, .tmp u, .tmp v]) {tmps : Array Value} {w : World} {b : Nat} {t : A} (ht : tmps.getD k undef = .pointer (some ⟨b, 0, none⟩)) (hs : C3 w b 0 t) :
    (results fn tmps).run Tryd.prog w = .ok (.tuple #[tV t, tmps.getD u undef, tmps.getD v undef]) w := by
  have ht' : tmps[k]?.getD undef = .pointer (some ⟨b, 0, none⟩) := by simpa using ht
  simp [results, h, ht', asAddr, loadT w b t hs]
/-- The answer with an error. -/
def NopeF (w : World) (k : Int) (e : Ending) (w' : World) : Prop := e = .returned (.tuple #[tV (0, 0, 0), .int .i64 0, .int .i64 k]) ∧ Below w.heap.size w w'
set_option maxHeartbeats 2000000 in
theorem first_short (d : ByteArray) (w : World) (h : d.size < 4) : Calls Tryd.prog 66 #[.string d] w (NopeF w 10) := by
  have h' : (d.size : Int) < 4 := by omega
  clear h
  unfold NopeF
  go_enter Tryd.func66, Tryd.ntmps66
  go_wp2_with fail
  refine bodyPost_ret (resT3 (b := w.heap.size) (t := (0, 0, 0)) rfl rfl (C3.new w (0, 0, 0))) rfl ?_
  exact ⟨rfl, by go_grown⟩
set_option maxHeartbeats 8000000 in
theorem first_end (d : ByteArray) (w : World) (hs : d.size ≤ maxLen) (h : 4 ≤ d.size) (h2 : (d.size : Int) < sizeV d) : Calls Tryd.prog 66 #[.string d] w (NopeF w 10) := by
  have h' : ¬ ((d.size : Int) < 4) := by omega
  obtain ⟨z0, z1⟩ := sizeV_range d
  have hsl : ∀ w, (Instr.slice 9 (.string d) (some (.int .i64 2)) (some (.int .i64 4)) none).run Tryd.prog w = .ok (.string (d.extract 2 4)) w := fun w => slice_lh d 2 4 (by omega) (by omega) (by omega) w
  have hx : (d.extract 2 4).size ≤ maxLen := by rw [ByteArray.size_extract]; omega
  have HR : Hid (Calls Tryd.prog 36 #[.string (d.extract 2 4)] (tx w (0, 0, 0)) fun x w' => x = .returned (.pointer (some ⟨w.heap.size + 1, 0, none⟩)) ∧ Rd w' (w.heap.size + 1) (d.extract 2 4) 0 ∧ Below (w.heap.size + 1) (tx w (0, 0, 0)) w' ∧ w'.heap.size = w.heap.size + 2) := (show _ from by
    have := rd_any (d.extract 2 4) (tx w (0, 0, 0))
    rw [show (tx w (0, 0, 0)).heap.size = w.heap.size + 1 by simp] at this
    exact this)
  have HN : Hid (∀ w1 b, Rd w1 b (d.extract 2 4) 0 → Calls Tryd.prog 37 #[.pointer (some ⟨b, 0, none⟩), .int .i64 2] w1 fun x w' => x = .returned (.int .u64 (sizeV d)) ∧ Only b w1 w') := (show ∀ w1 b, _ from fun w1 b r => by
    refine (numR b ⟨d.extract 2 4, 0⟩ 2 w1 hx r).mono ?_
    rintro x w' ⟨rfl, _, o⟩
    exact ⟨rfl, o⟩)
  unfold NopeF
  clear hs h hx
  generalize d.extract 2 4 = X at *
  generalize sizeV d = Z at *
  go_enter Tryd.func66, Tryd.ntmps66
  go_wp2_with fail
  refine HR.out.mono ?_
  rintro x w1 ⟨rfl, r1, g1, s1⟩
  have d1 : W3 w1 w.heap.size (0, 0, 0) := (W3.new w (0, 0, 0)).block (g1.block _ (by omega))
  have G1 : Below w.heap.size w w1 := (tx_below w (0, 0, 0)).trans (g1.mono (by omega))
  clear g1
  go_wp2_with fail
  refine (HN.out _ _ r1).mono ?_
  rintro x w2 ⟨rfl, o2⟩
  have d2 := d1.block (o2.block _ (by omega))
  have G2 : Below w.heap.size w w2 := o2.below (by omega) G1
  have s2 : w2.heap.size = w.heap.size + 2 := by rw [o2.size, s1]
  clear o2 d1 G1 r1 s1
  have d2' := d2
  obtain ⟨⟨e0, e1, e2⟩, ef⟩ := d2'
  go_wp2_with fail
  have d20 : W3 _ w.heap.size (0, 0, 0) := ((d2.set0 0).set1 0).set2 0
  refine bodyPost_ret (resT3 (b := w.heap.size) (t := (0, 0, 0)) rfl rfl d20.c) rfl ?_
  exact ⟨rfl, ((G2.setCell (Nat.le_refl _) _).setCell (Nat.le_refl _) _).setCell (Nat.le_refl _) _⟩
set_option maxHeartbeats 8000000 in
theorem first_low (d : ByteArray) (w : World) (hs : d.size ≤ maxLen) (h : 4 ≤ d.size) (h2 : sizeV d ≤ d.size) (h3 : sizeV d < 8) : Calls Tryd.prog 66 #[.string d] w (NopeF w 11) := by
  have h' : ¬ ((d.size : Int) < 4) := by omega
  obtain ⟨z0, z1⟩ := sizeV_range d
  have hsl : ∀ w, (Instr.slice 9 (.string d) (some (.int .i64 2)) (some (.int .i64 4)) none).run Tryd.prog w = .ok (.string (d.extract 2 4)) w := fun w => slice_lh d 2 4 (by omega) (by omega) (by omega) w
  have hx : (d.extract 2 4).size ≤ maxLen := by rw [ByteArray.size_extract]; omega
  have HR : Hid (Calls Tryd.prog 36 #[.string (d.extract 2 4)] (tx w (0, 0, 0)) fun x w' => x = .returned (.pointer (some ⟨w.heap.size + 1, 0, none⟩)) ∧ Rd w' (w.heap.size + 1) (d.extract 2 4) 0 ∧ Below (w.heap.size + 1) (tx w (0, 0, 0)) w' ∧ w'.heap.size = w.heap.size + 2) := (show _ from by
    have := rd_any (d.extract 2 4) (tx w (0, 0, 0))
    rw [show (tx w (0, 0, 0)).heap.size = w.heap.size + 1 by simp] at this
    exact this)
  have HN : Hid (∀ w1 b, Rd w1 b (d.extract 2 4) 0 → Calls Tryd.prog 37 #[.pointer (some ⟨b, 0, none⟩), .int .i64 2] w1 fun x w' => x = .returned (.int .u64 (sizeV d)) ∧ Only b w1 w') := (show ∀ w1 b, _ from fun w1 b r => by
    refine (numR b ⟨d.extract 2 4, 0⟩ 2 w1 hx r).mono ?_
    rintro x w' ⟨rfl, _, o⟩
    exact ⟨rfl, o⟩)
  have h2' : ¬ ((d.size : Int) < sizeV d) := by omega
  clear h2
  unfold NopeF
  clear hs h hx
  generalize d.extract 2 4 = X at *
  generalize sizeV d = Z at *
  go_enter Tryd.func66, Tryd.ntmps66
  go_wp2_with fail
  refine HR.out.mono ?_
  rintro x w1 ⟨rfl, r1, g1, s1⟩
  have d1 : W3 w1 w.heap.size (0, 0, 0) := (W3.new w (0, 0, 0)).block (g1.block _ (by omega))
  have G1 : Below w.heap.size w w1 := (tx_below w (0, 0, 0)).trans (g1.mono (by omega))
  clear g1
  go_wp2_with fail
  refine (HN.out _ _ r1).mono ?_
  rintro x w2 ⟨rfl, o2⟩
  have d2 := d1.block (o2.block _ (by omega))
  have G2 : Below w.heap.size w w2 := o2.below (by omega) G1
  have s2 : w2.heap.size = w.heap.size + 2 := by rw [o2.size, s1]
  clear o2 d1 G1 r1 s1
  have d2' := d2
  obtain ⟨⟨e0, e1, e2⟩, ef⟩ := d2'
  go_wp2_with fail
  have d20 : W3 _ w.heap.size (0, 0, 0) := ((d2.set0 0).set1 0).set2 0
  refine bodyPost_ret (resT3 (b := w.heap.size) (t := (0, 0, 0)) rfl rfl d20.c) rfl ?_
  exact ⟨rfl, ((G2.setCell (Nat.le_refl _) _).setCell (Nat.le_refl _) _).setCell (Nat.le_refl _) _⟩
set_option maxHeartbeats 8000000 in
theorem first_wrong (d : ByteArray) (w : World) (hs : d.size ≤ maxLen) (h : 4 ≤ d.size) (hd : Cd w) (h2 : sizeV d ≤ d.size) (h3 : 8 ≤ sizeV d) (h4 : rightB (readV (d.extract 0 (sizeV d).toNat)) = false) : Calls Tryd.prog 66 #[.string d] w (NopeF w 11) := by
  have h' : ¬ ((d.size : Int) < 4) := by omega
  obtain ⟨z0, z1⟩ := sizeV_range d
  have hsl : ∀ w, (Instr.slice 9 (.string d) (some (.int .i64 2)) (some (.int .i64 4)) none).run Tryd.prog w = .ok (.string (d.extract 2 4)) w := fun w => slice_lh d 2 4 (by omega) (by omega) (by omega) w
  have hx : (d.extract 2 4).size ≤ maxLen := by rw [ByteArray.size_extract]; omega
  have HR : Hid (Calls Tryd.prog 36 #[.string (d.extract 2 4)] (tx w (0, 0, 0)) fun x w' => x = .returned (.pointer (some ⟨w.heap.size + 1, 0, none⟩)) ∧ Rd w' (w.heap.size + 1) (d.extract 2 4) 0 ∧ Below (w.heap.size + 1) (tx w (0, 0, 0)) w' ∧ w'.heap.size = w.heap.size + 2) := (show _ from by
    have := rd_any (d.extract 2 4) (tx w (0, 0, 0))
    rw [show (tx w (0, 0, 0)).heap.size = w.heap.size + 1 by simp] at this
    exact this)
  have HN : Hid (∀ w1 b, Rd w1 b (d.extract 2 4) 0 → Calls Tryd.prog 37 #[.pointer (some ⟨b, 0, none⟩), .int .i64 2] w1 fun x w' => x = .returned (.int .u64 (sizeV d)) ∧ Only b w1 w') := (show ∀ w1 b, _ from fun w1 b r => by
    refine (numR b ⟨d.extract 2 4, 0⟩ 2 w1 hx r).mono ?_
    rintro x w' ⟨rfl, _, o⟩
    exact ⟨rfl, o⟩)
  have h2' : ¬ ((d.size : Int) < sizeV d) := by omega
  have h3' : ¬ (sizeV d < 8) := by omega
  have hsl2 : ∀ w, (Instr.slice 9 (.string d) none (some (.int .i64 (sizeV d))) none).run Tryd.prog w = .ok (.string (d.extract 0 (sizeV d).toNat)) w := fun w => slice_h d _ z0 h2 w
  have hy : (d.extract 0 (sizeV d).toNat).size ≤ maxLen := by rw [ByteArray.size_extract]; omega
  have HA : Hid (∀ w, Cd w → Calls Tryd.prog 73 #[.string (d.extract 0 (sizeV d).toNat)] w fun e w' => e = .returned (tV (readV (d.extract 0 (sizeV d).toNat))) ∧ Below w.heap.size w w') := (show ∀ w, _ from fun w hd => readA_any _ w hy hd)
  have HG : Hid (∀ w, Cd w → Calls Tryd.prog 41 #[tV (readV (d.extract 0 (sizeV d).toNat))] w fun e w' => e = .returned (.bool false) ∧ Below w.heap.size w w') := (show ∀ w, _ from fun w hd => by
    have := right_any (readV (d.extract 0 (sizeV d).toNat)) w hd
    rwa [h4] at this)
  have HD : Hid (Cd w) := hd
  clear hy h2 h3 h4 hd
  unfold NopeF
  generalize d.extract 0 (sizeV d).toNat = Y at *
  generalize readV Y = T at *
  clear hs h hx
  generalize d.extract 2 4 = X at *
  generalize sizeV d = Z at *
  go_enter Tryd.func66, Tryd.ntmps66
  go_wp2_with fail
  refine HR.out.mono ?_
  rintro x w1 ⟨rfl, r1, g1, s1⟩
  have d1 : W3 w1 w.heap.size (0, 0, 0) := (W3.new w (0, 0, 0)).block (g1.block _ (by omega))
  have G1 : Below w.heap.size w w1 := (tx_below w (0, 0, 0)).trans (g1.mono (by omega))
  clear g1
  go_wp2_with fail
  refine (HN.out _ _ r1).mono ?_
  rintro x w2 ⟨rfl, o2⟩
  have d2 := d1.block (o2.block _ (by omega))
  have G2 : Below w.heap.size w w2 := o2.below (by omega) G1
  have s2 : w2.heap.size = w.heap.size + 2 := by rw [o2.size, s1]
  clear o2 d1 G1 r1 s1
  go_wp2_with fail
  refine (HA.out _ (HD.out.below G2)).mono ?_
  rintro x w3 ⟨rfl, g3⟩
  have d3 := d2.block (g3.block _ (by omega))
  have G3 : Below w.heap.size w w3 := btr G2 g3 (by omega)
  have s3 : w.heap.size + 2 ≤ w3.heap.size := by have := g3.size; omega
  clear g3 d2 G2 s2
  have t4 := C3.new w3 T
  have d4 : W3 (tx w3 T) w.heap.size (0, 0, 0) := d3.block ((tx_below w3 T).block _ (by omega))
  have G4 : Below w.heap.size w (tx w3 T) := btr G3 (tx_below w3 T) (by omega)
  have e4 : (tx w3 T).heap.size = w3.heap.size + 1 := by simp
  obtain ⟨W4, hW4⟩ : ∃ W4, tx w3 T = W4 := ⟨_, rfl⟩
  rw [hW4] at t4 d4 G4 e4
  have HW4 : Hid (tx w3 T = W4) := hW4
  obtain ⟨B, hB⟩ : ∃ B, w3.heap.size = B := ⟨_, rfl⟩
  have qa : ∀ n : GrT W4, C3 n.w w3.heap.size 0 T := fun n => t4.below (by omega) n.h
  have HDn : Hid (∀ n : GrT W4, Cd n.w) := (show ∀ n : GrT W4, Cd n.w from fun n => (HD.out.below G4).below n.h)
  clear d3 G3 hW4 hB
  go_wp2_with fail
  have hW := HW4.out
  simp only [tx, tC] at hW
  rw [hW]
  clear hW
  refine wp_region_grow (by kernel_rfl) (by kernel_rfl) ?_
  repeat (go_big_quiet_step ((first | (go_at_call 41; exact quiet_gr (HG.out _ (HDn.out _))))))
  refine wpQuiet_nil ?_
  rintro w5 hw'
  have g5 := gr_elim hw'
  clear hw' qa
  have d5 := d4.block (g5.block _ (by omega))
  have t5 := t4.below (by omega) g5
  have G5 : Below w.heap.size w w5 := btr G4 g5 (by omega)
  clear g5 d4 t4 G4 HW4
  have d5' := d5
  obtain ⟨⟨e0, e1, e2⟩, ef⟩ := d5'
  obtain ⟨c0, c1, c2⟩ := t5
  go_wp2_with fail
  have d20 : W3 _ w.heap.size (0, 0, 0) := ((d5.set0 0).set1 0).set2 0
  refine bodyPost_ret (resT3 (b := w.heap.size) (t := (0, 0, 0)) rfl rfl d20.c) rfl ?_
  exact ⟨rfl, ((G5.setCell (Nat.le_refl _) _).setCell (Nat.le_refl _) _).setCell (Nat.le_refl _) _⟩
set_option maxHeartbeats 8000000 in
theorem first_other (d : ByteArray) (w : World) (hs : d.size ≤ maxLen) (h : 4 ≤ d.size) (hd : Cd w) (h2 : sizeV d ≤ d.size) (h3 : 8 ≤ sizeV d) (h4 : rightB (readV (d.extract 0 (sizeV d).toNat)) = true) (h5 : writeV (readV (d.extract 0 (sizeV d).toNat)) ≠ d.extract 0 (sizeV d).toNat) : Calls Tryd.prog 66 #[.string d] w (NopeF w 11) := by
  have h' : ¬ ((d.size : Int) < 4) := by omega
  obtain ⟨z0, z1⟩ := sizeV_range d
  have hsl : ∀ w, (Instr.slice 9 (.string d) (some (.int .i64 2)) (some (.int .i64 4)) none).run Tryd.prog w = .ok (.string (d.extract 2 4)) w := fun w => slice_lh d 2 4 (by omega) (by omega) (by omega) w
  have hx : (d.extract 2 4).size ≤ maxLen := by rw [ByteArray.size_extract]; omega
  have HR : Hid (Calls Tryd.prog 36 #[.string (d.extract 2 4)] (tx w (0, 0, 0)) fun x w' => x = .returned (.pointer (some ⟨w.heap.size + 1, 0, none⟩)) ∧ Rd w' (w.heap.size + 1) (d.extract 2 4) 0 ∧ Below (w.heap.size + 1) (tx w (0, 0, 0)) w' ∧ w'.heap.size = w.heap.size + 2) := (show _ from by
    have := rd_any (d.extract 2 4) (tx w (0, 0, 0))
    rw [show (tx w (0, 0, 0)).heap.size = w.heap.size + 1 by simp] at this
    exact this)
  have HN : Hid (∀ w1 b, Rd w1 b (d.extract 2 4) 0 → Calls Tryd.prog 37 #[.pointer (some ⟨b, 0, none⟩), .int .i64 2] w1 fun x w' => x = .returned (.int .u64 (sizeV d)) ∧ Only b w1 w') := (show ∀ w1 b, _ from fun w1 b r => by
    refine (numR b ⟨d.extract 2 4, 0⟩ 2 w1 hx r).mono ?_
    rintro x w' ⟨rfl, _, o⟩
    exact ⟨rfl, o⟩)
  have h2' : ¬ ((d.size : Int) < sizeV d) := by omega
  have h3' : ¬ (sizeV d < 8) := by omega
  have hsl2 : ∀ w, (Instr.slice 9 (.string d) none (some (.int .i64 (sizeV d))) none).run Tryd.prog w = .ok (.string (d.extract 0 (sizeV d).toNat)) w := fun w => slice_h d _ z0 h2 w
  have hy : (d.extract 0 (sizeV d).toNat).size ≤ maxLen := by rw [ByteArray.size_extract]; omega
  have HA : Hid (∀ w, Cd w → Calls Tryd.prog 73 #[.string (d.extract 0 (sizeV d).toNat)] w fun e w' => e = .returned (tV (readV (d.extract 0 (sizeV d).toNat))) ∧ Below w.heap.size w w') := (show ∀ w, _ from fun w hd => readA_any _ w hy hd)
  have HG : Hid (∀ w, Cd w → Calls Tryd.prog 41 #[tV (readV (d.extract 0 (sizeV d).toNat))] w fun e w' => e = .returned (.bool true) ∧ Below w.heap.size w w') := (show ∀ w, _ from fun w hd => by
    have := right_any (readV (d.extract 0 (sizeV d).toNat)) w hd
    rwa [h4] at this)
  have HD : Hid (Cd w) := hd
  have HW : Hid (∀ w, Cd w → Calls Tryd.prog 29 #[tV (readV (d.extract 0 (sizeV d).toNat))] w fun e w' => e = .returned (.string (writeV (readV (d.extract 0 (sizeV d).toNat)))) ∧ Below w.heap.size w w') := (show ∀ w, _ from fun w hd => write_any _ w hd h4)
  clear hy h2 h3 h4 hd
  unfold NopeF
  generalize d.extract 0 (sizeV d).toNat = Y at *
  generalize readV Y = T at *
  generalize writeV T = E at *
  have hq : (!E.toList == Y.toList) = true := by
    rw [Bool.not_eq_true', beq_eq_false_iff_ne]
    intro hh
    apply h5
    apply ba_ext
    rw [← ByteArray.toList_eq, ← ByteArray.toList_eq]
    exact hh
  clear h5
  clear hs h hx
  generalize d.extract 2 4 = X at *
  generalize sizeV d = Z at *
  go_enter Tryd.func66, Tryd.ntmps66
  go_wp2_with fail
  refine HR.out.mono ?_
  rintro x w1 ⟨rfl, r1, g1, s1⟩
  have d1 : W3 w1 w.heap.size (0, 0, 0) := (W3.new w (0, 0, 0)).block (g1.block _ (by omega))
  have G1 : Below w.heap.size w w1 := (tx_below w (0, 0, 0)).trans (g1.mono (by omega))
  clear g1
  go_wp2_with fail
  refine (HN.out _ _ r1).mono ?_
  rintro x w2 ⟨rfl, o2⟩
  have d2 := d1.block (o2.block _ (by omega))
  have G2 : Below w.heap.size w w2 := o2.below (by omega) G1
  have s2 : w2.heap.size = w.heap.size + 2 := by rw [o2.size, s1]
  clear o2 d1 G1 r1 s1
  go_wp2_with fail
  refine (HA.out _ (HD.out.below G2)).mono ?_
  rintro x w3 ⟨rfl, g3⟩
  have d3 := d2.block (g3.block _ (by omega))
  have G3 : Below w.heap.size w w3 := btr G2 g3 (by omega)
  have s3 : w.heap.size + 2 ≤ w3.heap.size := by have := g3.size; omega
  clear g3 d2 G2 s2
  have t4 := C3.new w3 T
  have d4 : W3 (tx w3 T) w.heap.size (0, 0, 0) := d3.block ((tx_below w3 T).block _ (by omega))
  have G4 : Below w.heap.size w (tx w3 T) := btr G3 (tx_below w3 T) (by omega)
  have e4 : (tx w3 T).heap.size = w3.heap.size + 1 := by simp
  obtain ⟨W4, hW4⟩ : ∃ W4, tx w3 T = W4 := ⟨_, rfl⟩
  rw [hW4] at t4 d4 G4 e4
  have HW4 : Hid (tx w3 T = W4) := hW4
  obtain ⟨B, hB⟩ : ∃ B, w3.heap.size = B := ⟨_, rfl⟩
  have qa : ∀ n : GrT W4, C3 n.w w3.heap.size 0 T := fun n => t4.below (by omega) n.h
  have HDn : Hid (∀ n : GrT W4, Cd n.w) := (show ∀ n : GrT W4, Cd n.w from fun n => (HD.out.below G4).below n.h)
  clear d3 G3 hW4 hB
  go_wp2_with fail
  have hW := HW4.out
  simp only [tx, tC] at hW
  rw [hW]
  clear hW
  refine wp_region_grow (by kernel_rfl) (by kernel_rfl) ?_
  repeat (go_big_quiet_step ((first | (go_at_call 41; exact quiet_gr (HG.out _ (HDn.out _))) | (go_at_call 29; exact quiet_gr (HW.out _ (HDn.out _))))))
  refine wpQuiet_nil ?_
  rintro w5 hw'
  have g5 := gr_elim hw'
  clear hw' qa
  have d5 := d4.block (g5.block _ (by omega))
  have t5 := t4.below (by omega) g5
  have G5 : Below w.heap.size w w5 := btr G4 g5 (by omega)
  clear g5 d4 t4 G4 HW4
  have d5' := d5
  obtain ⟨⟨e0, e1, e2⟩, ef⟩ := d5'
  obtain ⟨c0, c1, c2⟩ := t5
  go_wp2_with fail
  have d20 : W3 _ w.heap.size (0, 0, 0) := ((d5.set0 0).set1 0).set2 0
  refine bodyPost_ret (resT3 (b := w.heap.size) (t := (0, 0, 0)) rfl rfl d20.c) rfl ?_
  exact ⟨rfl, ((G5.setCell (Nat.le_refl _) _).setCell (Nat.le_refl _) _).setCell (Nat.le_refl _) _⟩
set_option maxHeartbeats 8000000 in
theorem first_good (d : ByteArray) (w : World) (hs : d.size ≤ maxLen) (h : 4 ≤ d.size) (hd : Cd w) (h2 : sizeV d ≤ d.size) (h3 : 8 ≤ sizeV d) (h4 : rightB (readV (d.extract 0 (sizeV d).toNat)) = true) (h5 : writeV (readV (d.extract 0 (sizeV d).toNat)) = d.extract 0 (sizeV d).toNat) : Calls Tryd.prog 66 #[.string d] w (fun e w' => e = .returned (.tuple #[tV (readV (d.extract 0 (sizeV d).toNat)), .int .i64 (sizeV d), .int .i64 0]) ∧ Below w.heap.size w w') := by
  have h' : ¬ ((d.size : Int) < 4) := by omega
  obtain ⟨z0, z1⟩ := sizeV_range d
  have hsl : ∀ w, (Instr.slice 9 (.string d) (some (.int .i64 2)) (some (.int .i64 4)) none).run Tryd.prog w = .ok (.string (d.extract 2 4)) w := fun w => slice_lh d 2 4 (by omega) (by omega) (by omega) w
  have hx : (d.extract 2 4).size ≤ maxLen := by rw [ByteArray.size_extract]; omega
  have HR : Hid (Calls Tryd.prog 36 #[.string (d.extract 2 4)] (tx w (0, 0, 0)) fun x w' => x = .returned (.pointer (some ⟨w.heap.size + 1, 0, none⟩)) ∧ Rd w' (w.heap.size + 1) (d.extract 2 4) 0 ∧ Below (w.heap.size + 1) (tx w (0, 0, 0)) w' ∧ w'.heap.size = w.heap.size + 2) := (show _ from by
    have := rd_any (d.extract 2 4) (tx w (0, 0, 0))
    rw [show (tx w (0, 0, 0)).heap.size = w.heap.size + 1 by simp] at this
    exact this)
  have HN : Hid (∀ w1 b, Rd w1 b (d.extract 2 4) 0 → Calls Tryd.prog 37 #[.pointer (some ⟨b, 0, none⟩), .int .i64 2] w1 fun x w' => x = .returned (.int .u64 (sizeV d)) ∧ Only b w1 w') := (show ∀ w1 b, _ from fun w1 b r => by
    refine (numR b ⟨d.extract 2 4, 0⟩ 2 w1 hx r).mono ?_
    rintro x w' ⟨rfl, _, o⟩
    exact ⟨rfl, o⟩)
  have h2' : ¬ ((d.size : Int) < sizeV d) := by omega
  have h3' : ¬ (sizeV d < 8) := by omega
  have hsl2 : ∀ w, (Instr.slice 9 (.string d) none (some (.int .i64 (sizeV d))) none).run Tryd.prog w = .ok (.string (d.extract 0 (sizeV d).toNat)) w := fun w => slice_h d _ z0 h2 w
  have hy : (d.extract 0 (sizeV d).toNat).size ≤ maxLen := by rw [ByteArray.size_extract]; omega
  have HA : Hid (∀ w, Cd w → Calls Tryd.prog 73 #[.string (d.extract 0 (sizeV d).toNat)] w fun e w' => e = .returned (tV (readV (d.extract 0 (sizeV d).toNat))) ∧ Below w.heap.size w w') := (show ∀ w, _ from fun w hd => readA_any _ w hy hd)
  have HG : Hid (∀ w, Cd w → Calls Tryd.prog 41 #[tV (readV (d.extract 0 (sizeV d).toNat))] w fun e w' => e = .returned (.bool true) ∧ Below w.heap.size w w') := (show ∀ w, _ from fun w hd => by
    have := right_any (readV (d.extract 0 (sizeV d).toNat)) w hd
    rwa [h4] at this)
  have HD : Hid (Cd w) := hd
  have HW : Hid (∀ w, Cd w → Calls Tryd.prog 29 #[tV (readV (d.extract 0 (sizeV d).toNat))] w fun e w' => e = .returned (.string (d.extract 0 (sizeV d).toNat)) ∧ Below w.heap.size w w') := (show ∀ w, _ from fun w hd => by
    have := write_any _ w hd h4
    rwa [h5] at this)
  clear hy h2 h3 h4 h5 hd
  generalize d.extract 0 (sizeV d).toNat = Y at *
  generalize readV Y = T at *
  clear hs h hx
  generalize d.extract 2 4 = X at *
  generalize sizeV d = Z at *
  go_enter Tryd.func66, Tryd.ntmps66
  go_wp2_with fail
  refine HR.out.mono ?_
  rintro x w1 ⟨rfl, r1, g1, s1⟩
  have d1 : W3 w1 w.heap.size (0, 0, 0) := (W3.new w (0, 0, 0)).block (g1.block _ (by omega))
  have G1 : Below w.heap.size w w1 := (tx_below w (0, 0, 0)).trans (g1.mono (by omega))
  clear g1
  go_wp2_with fail
  refine (HN.out _ _ r1).mono ?_
  rintro x w2 ⟨rfl, o2⟩
  have d2 := d1.block (o2.block _ (by omega))
  have G2 : Below w.heap.size w w2 := o2.below (by omega) G1
  have s2 : w2.heap.size = w.heap.size + 2 := by rw [o2.size, s1]
  clear o2 d1 G1 r1 s1
  go_wp2_with fail
  refine (HA.out _ (HD.out.below G2)).mono ?_
  rintro x w3 ⟨rfl, g3⟩
  have d3 := d2.block (g3.block _ (by omega))
  have G3 : Below w.heap.size w w3 := btr G2 g3 (by omega)
  have s3 : w.heap.size + 2 ≤ w3.heap.size := by have := g3.size; omega
  clear g3 d2 G2 s2
  have t4 := C3.new w3 T
  have d4 : W3 (tx w3 T) w.heap.size (0, 0, 0) := d3.block ((tx_below w3 T).block _ (by omega))
  have G4 : Below w.heap.size w (tx w3 T) := btr G3 (tx_below w3 T) (by omega)
  have e4 : (tx w3 T).heap.size = w3.heap.size + 1 := by simp
  obtain ⟨W4, hW4⟩ : ∃ W4, tx w3 T = W4 := ⟨_, rfl⟩
  rw [hW4] at t4 d4 G4 e4
  have HW4 : Hid (tx w3 T = W4) := hW4
  obtain ⟨B, hB⟩ : ∃ B, w3.heap.size = B := ⟨_, rfl⟩
  have qa : ∀ n : GrT W4, C3 n.w w3.heap.size 0 T := fun n => t4.below (by omega) n.h
  have HDn : Hid (∀ n : GrT W4, Cd n.w) := (show ∀ n : GrT W4, Cd n.w from fun n => (HD.out.below G4).below n.h)
  clear d3 G3 hW4 hB
  go_wp2_with fail
  have hW := HW4.out
  simp only [tx, tC] at hW
  rw [hW]
  clear hW
  refine wp_region_grow (by kernel_rfl) (by kernel_rfl) ?_
  repeat (go_big_quiet_step ((first | (go_at_call 41; exact quiet_gr (HG.out _ (HDn.out _))) | (go_at_call 29; exact quiet_gr (HW.out _ (HDn.out _))))))
  refine wpQuiet_nil ?_
  rintro w5 hw'
  have g5 := gr_elim hw'
  clear hw' qa
  have d5 := d4.block (g5.block _ (by omega))
  have t5 := t4.below (by omega) g5
  have G5 : Below w.heap.size w w5 := btr G4 g5 (by omega)
  clear g5 d4 t4 G4 HW4
  have d5' := d5
  obtain ⟨⟨e0, e1, e2⟩, ef⟩ := d5'
  obtain ⟨c0, c1, c2⟩ := t5
  go_wp2_with fail
  have d20 : W3 _ w.heap.size T := ((d5.set0 T.1).set1 T.2.1).set2 T.2.2
  refine bodyPost_ret (resT3 (b := w.heap.size) (t := T) rfl rfl d20.c) rfl ?_
  exact ⟨rfl, ((G5.setCell (Nat.le_refl _) _).setCell (Nat.le_refl _) _).setCell (Nat.le_refl _) _⟩
theorem first_any (d : ByteArray) (w : World) (hs : d.size ≤ maxLen) (hd : Cd w) :
    Calls Tryd.prog 66 #[.string d] w fun e w' => e = .returned (.tuple #[tV (firstA d), .int .i64 (firstZ d), .int .i64 (firstE d)]) ∧ Below w.heap.size w w' := by
  have bad : ∀ k : Int, k ≠ 0 → firstE d = k → Calls Tryd.prog 66 #[.string d] w (NopeF w k) → Calls Tryd.prog 66 #[.string d] w fun e w' => e = .returned (.tuple #[tV (firstA d), .int .i64 (firstZ d), .int .i64 (firstE d)]) ∧ Below w.heap.size w w' := fun k hk he hc => by
    have n0 : ¬ (firstE d = 0) := by rw [he]; exact hk
    unfold firstA firstZ
    rw [if_neg n0, if_neg n0, he]
    exact hc
  by_cases h4 : d.size < 4
  · exact bad 10 (by decide) (by unfold firstE; rw [if_pos h4]) (first_short d w h4)
  · by_cases h5 : (d.size : Int) < sizeV d
    · exact bad 10 (by decide) (by unfold firstE; rw [if_neg h4, if_pos h5]) (first_end d w hs (by omega) h5)
    · by_cases h6 : sizeV d < 8
      · exact bad 11 (by decide) (by unfold firstE; rw [if_neg h4, if_neg h5, if_pos h6]) (first_low d w hs (by omega) (by omega) h6)
      · cases h7 : rightB (readV (d.extract 0 (sizeV d).toNat))
        · exact bad 11 (by decide) (by unfold firstE; rw [if_neg h4, if_neg h5, if_neg h6, if_neg (by simp [h7])]) (first_wrong d w hs (by omega) hd (by omega) (by omega) h7)
        · by_cases h8 : writeV (readV (d.extract 0 (sizeV d).toNat)) = d.extract 0 (sizeV d).toNat
          · have he : firstE d = 0 := by unfold firstE; rw [if_neg h4, if_neg h5, if_neg h6, if_pos ⟨h7, h8⟩]
            unfold firstA firstZ
            rw [if_pos he, if_pos he, he]
            exact first_good d w hs (by omega) hd (by omega) (by omega) h7 h8
          · exact bad 11 (by decide) (by unfold firstE; rw [if_neg h4, if_neg h5, if_neg h6, if_neg (fun h => h8 h.2)]) (first_other d w hs (by omega) hd (by omega) (by omega) h7 h8)
end Go.Proofs.YtcbhkbiofmimbaaDoor
