/-
  What read answers, as a contract.
-/
import Derived.Test.YtcbhkbiofmimbaaDoorDecP
import Derived.Test.YtcbhkbiofmimbaaDoorWrite
namespace Go.Proofs.YtcbhkbiofmimbaaDoor
open Go.ChangeShapes Go.WideShapes Go.ChangeAt Go.RowKit

/-- An action's block that may be written. -/
structure W3 (w : World) (b : Nat) (t : A) : Prop where
  c : C3 w b 0 t
  f : ∀ o, w.frozen? ⟨b, o, none⟩ = false
theorem W3.block {w w' : World} {b : Nat} {t : A} (h : W3 w b t) (g : w'.heap[b]? = w.heap[b]?) : W3 w' b t :=
  ⟨h.c.block g, fun o => (World.frozen?_of_block (w := w) g).trans (h.f o)⟩
theorem W3.new (w : World) (t : A) : W3 (tx w t) w.heap.size t := ⟨C3.new w t, by simp [tx]⟩
theorem W3.set0 {w : World} {b : Nat} {t : A} (h : W3 w b t) (x : Int) : W3 (w.setCell ⟨b, 0, none⟩ (.int .i64 x)) b (x, t.2.1, t.2.2) := by
  obtain ⟨⟨c0, c1, c2⟩, f⟩ := h
  exact ⟨⟨World.cell?_setCell_same _ _ _ c0, (World.cell?_setCell_other _ _ _ _ (by simp)).trans c1, (World.cell?_setCell_other _ _ _ _ (by simp)).trans c2⟩, fun o => by simp [f]⟩
theorem W3.set1 {w : World} {b : Nat} {t : A} (h : W3 w b t) (x : Int) : W3 (w.setCell ⟨b, 1, none⟩ (.int .i64 x)) b (t.1, x, t.2.2) := by
  obtain ⟨⟨c0, c1, c2⟩, f⟩ := h
  exact ⟨⟨(World.cell?_setCell_other _ _ _ _ (by simp)).trans c0, World.cell?_setCell_same _ _ _ c1, (World.cell?_setCell_other _ _ _ _ (by simp)).trans c2⟩, fun o => by simp [f]⟩
theorem W3.set2 {w : World} {b : Nat} {t : A} (h : W3 w b t) (x : Int) : W3 (w.setCell ⟨b, 2, none⟩ (.int .u64 x)) b (t.1, t.2.1, x) := by
  obtain ⟨⟨c0, c1, c2⟩, f⟩ := h
  exact ⟨⟨(World.cell?_setCell_other _ _ _ _ (by simp)).trans c0, (World.cell?_setCell_other _ _ _ _ (by simp)).trans c1, World.cell?_setCell_same _ _ _ c2⟩, fun o => by simp [f]⟩
theorem Rd.set {w : World} {b c : Nat} {s : ByteArray} {e : Int} (r : Rd w b s e) (hne : b ≠ c) (o : Nat) (v : Value) : Rd (w.setCell ⟨c, o, none⟩ v) b s e := by
  have g : (w.setCell ⟨c, o, none⟩ v).heap[b]? = w.heap[b]? := Below.heap_setCell _ _ _ _ hne
  exact ⟨(World.cell?_of_block (w := w) g).trans r.c0, (World.cell?_of_block (w := w) g).trans r.c1, (World.frozen?_of_block (w := w) g).trans r.f0, (World.frozen?_of_block (w := w) g).trans r.f1⟩
theorem tx_below (w : World) (t : A) : Below w.heap.size w (tx w t) := by go_grown
theorem rd_any (s : ByteArray) (w : World) : Calls Tryd.prog 36 #[.string s] w fun x w' => x = .returned (.pointer (some ⟨w.heap.size, 0, none⟩)) ∧ Rd w' w.heap.size s 0 ∧ Below w.heap.size w w' ∧ w'.heap.size = w.heap.size + 1 := by
  refine (read_any s w).mono ?_
  rintro x w' ⟨rfl, rfl⟩
  exact ⟨rfl, Rd.new w s 0 _, by go_grown, by simp⟩
set_option maxHeartbeats 8000000 in
theorem read_n (R : RS) (K : Int) (w : World) (hs : R.s.size ≤ maxLen) (he : R.e = 0) (hd : Cd w) (hK : Hid (kindV (R.num 2) = K)) (b1 : (K == 1) = false) (b2 : (K == 2) = false) (b5 : (K == 5) = false) :
    Calls Tryd.prog 73 #[.string R.s] w fun e w' => e = .returned (tV (K, 0, 0)) ∧ Below w.heap.size w w' := by
  have z1 : R.s.size ≤ maxLen := hs
  have z2 := Nat.le_trans (RS.skip_size R 2) z1
  have z3 := Nat.le_trans (RS.skip_size (R.skip 2) 2) z2
  have z4 := Nat.le_trans (RS.skip_size ((R.skip 2).skip 2) 2) z3
  have z5 := Nat.le_trans (RS.skip_size (((R.skip 2).skip 2).skip 2) 1) z4
  have z6 := Nat.le_trans (RS.skip_size ((((R.skip 2).skip 2).skip 2).skip 1) 1) z5
  have hlt := RS.num_lt R 2 (by omega)
  have h0 : 0 ≤ R.num 2 := by simpa using hlt.1
  have h1 : R.num 2 < 65536 := by simpa using hlt.2
  clear hlt
  have HK : Hid (∀ w, Cd w → Calls Tryd.prog 76 #[.int .i64 (R.num 2)] w fun e w' => e = .returned (.int .i64 K) ∧ Below w.heap.size w w') := (show ∀ w, _ from fun w hd => by
    have := kindOf_any (R.num 2) w hd
    rwa [hK.out] at this)
  have HR : Hid (Calls Tryd.prog 36 #[.string R.s] (tx w (0, 0, 0)) fun x w' => x = .returned (.pointer (some ⟨w.heap.size + 1, 0, none⟩)) ∧ Rd w' (w.heap.size + 1) R.s R.e ∧ Below (w.heap.size + 1) (tx w (0, 0, 0)) w' ∧ w'.heap.size = w.heap.size + 2) := (show _ from by
    have := rd_any R.s (tx w (0, 0, 0))
    rw [show (tx w (0, 0, 0)).heap.size = w.heap.size + 1 by simp] at this
    rw [he]
    exact this)
  have HD : Hid (Cd w) := hd
  clear hs he hK hd
  go_enter Tryd.func73, Tryd.ntmps73
  go_wp2_with fail
  refine HR.out.mono ?_
  rintro x w1 ⟨rfl, r1, g1, s1⟩
  have d1 : W3 w1 w.heap.size (0, 0, 0) := (W3.new w (0, 0, 0)).block (g1.block _ (by omega))
  have G1 : Below w.heap.size w w1 := (tx_below w (0, 0, 0)).trans (g1.mono (by omega))
  clear g1
  go_wp2_with fail
  refine (numR (w.heap.size + 1) R 2 _ z1 r1).mono ?_
  rintro x w2 ⟨rfl, r2, o2⟩
  have d2 := d1.block (o2.block _ (by omega))
  have G2 : Below w.heap.size w w2 := o2.below (by omega) G1
  have s2 : w2.heap.size = w.heap.size + 2 := by rw [o2.size, s1]
  clear o2 d1 G1 r1 s1
  obtain ⟨N, hN⟩ : ∃ N, R.num 2 = N := ⟨_, rfl⟩
  rw [hN] at h0 h1 HK ⊢
  clear hN
  go_wp2_with fail
  refine (HK.out _ (HD.out.below G2)).mono ?_
  rintro x w3 ⟨rfl, g3⟩
  have d3 := d2.block (g3.block _ (by omega))
  have r3 := r2.below (by omega) g3
  have G3 : Below w.heap.size w w3 := btr G2 g3 (by omega)
  have s3 : w.heap.size + 2 ≤ w3.heap.size := by have := g3.size; omega
  clear g3 d2 r2 G2 s2
  have t4 := W3.new w3 (K, 0, 0)
  have d4 : W3 (tx w3 (K, 0, 0)) w.heap.size (0, 0, 0) := d3.block ((tx_below w3 (K, 0, 0)).block _ (by omega))
  have r4 := r3.below (by omega) (tx_below w3 (K, 0, 0))
  have G4 : Below w.heap.size w (tx w3 (K, 0, 0)) := btr G3 (tx_below w3 (K, 0, 0)) (by omega)
  clear d3 r3 G3
  go_wp2_with fail
  refine (numR (w.heap.size + 1) (R.skip 2) 2 _ z2 r4).mono ?_
  rintro x w5 ⟨rfl, r5, o5⟩
  have t5 := t4.block (o5.block _ (by omega))
  have d5 := d4.block (o5.block _ (by omega))
  have G5 : Below w.heap.size w w5 := o5.below (by omega) G4
  clear o5 t4 d4 r4 G4
  obtain ⟨B, hB⟩ : ∃ B, w3.heap.size = B := ⟨_, rfl⟩
  rw [hB] at t5 s3 ⊢
  clear hB
  have t5' := t5
  have d5' := d5
  obtain ⟨⟨c0, c1, c2⟩, cf⟩ := t5'
  obtain ⟨⟨e0, e1, e2⟩, ef⟩ := d5'
  go_wp2_with fail
  have d20 : W3 _ w.heap.size (K, 0, 0) := ((d5.set0 K).set1 0).set2 0
  refine bodyPost_ret (resT (b := w.heap.size) (t := (K, 0, 0)) rfl rfl d20.c) rfl ?_
  refine ⟨rfl, ?_⟩
  exact ((G5.setCell (Nat.le_refl _) _).setCell (Nat.le_refl _) _).setCell (Nat.le_refl _) _
set_option maxHeartbeats 8000000 in
theorem read_1 (R : RS) (K : Int) (w : World) (hs : R.s.size ≤ maxLen) (he : R.e = 0) (hd : Cd w) (hK : Hid (kindV (R.num 2) = K)) (b1 : (K == 1) = true) :
    Calls Tryd.prog 73 #[.string R.s] w fun e w' => e = .returned (tV (K, 0, ((R.skip 2).skip 2).num 4)) ∧ Below w.heap.size w w' := by
  have z1 : R.s.size ≤ maxLen := hs
  have z2 := Nat.le_trans (RS.skip_size R 2) z1
  have z3 := Nat.le_trans (RS.skip_size (R.skip 2) 2) z2
  have z4 := Nat.le_trans (RS.skip_size ((R.skip 2).skip 2) 2) z3
  have z5 := Nat.le_trans (RS.skip_size (((R.skip 2).skip 2).skip 2) 1) z4
  have z6 := Nat.le_trans (RS.skip_size ((((R.skip 2).skip 2).skip 2).skip 1) 1) z5
  have hlt := RS.num_lt R 2 (by omega)
  have h0 : 0 ≤ R.num 2 := by simpa using hlt.1
  have h1 : R.num 2 < 65536 := by simpa using hlt.2
  clear hlt
  have HK : Hid (∀ w, Cd w → Calls Tryd.prog 76 #[.int .i64 (R.num 2)] w fun e w' => e = .returned (.int .i64 K) ∧ Below w.heap.size w w') := (show ∀ w, _ from fun w hd => by
    have := kindOf_any (R.num 2) w hd
    rwa [hK.out] at this)
  have HR : Hid (Calls Tryd.prog 36 #[.string R.s] (tx w (0, 0, 0)) fun x w' => x = .returned (.pointer (some ⟨w.heap.size + 1, 0, none⟩)) ∧ Rd w' (w.heap.size + 1) R.s R.e ∧ Below (w.heap.size + 1) (tx w (0, 0, 0)) w' ∧ w'.heap.size = w.heap.size + 2) := (show _ from by
    have := rd_any R.s (tx w (0, 0, 0))
    rw [show (tx w (0, 0, 0)).heap.size = w.heap.size + 1 by simp] at this
    rw [he]
    exact this)
  have HD : Hid (Cd w) := hd
  clear hs he hK hd
  go_enter Tryd.func73, Tryd.ntmps73
  go_wp2_with fail
  refine HR.out.mono ?_
  rintro x w1 ⟨rfl, r1, g1, s1⟩
  have d1 : W3 w1 w.heap.size (0, 0, 0) := (W3.new w (0, 0, 0)).block (g1.block _ (by omega))
  have G1 : Below w.heap.size w w1 := (tx_below w (0, 0, 0)).trans (g1.mono (by omega))
  clear g1
  go_wp2_with fail
  refine (numR (w.heap.size + 1) R 2 _ z1 r1).mono ?_
  rintro x w2 ⟨rfl, r2, o2⟩
  have d2 := d1.block (o2.block _ (by omega))
  have G2 : Below w.heap.size w w2 := o2.below (by omega) G1
  have s2 : w2.heap.size = w.heap.size + 2 := by rw [o2.size, s1]
  clear o2 d1 G1 r1 s1
  obtain ⟨N, hN⟩ : ∃ N, R.num 2 = N := ⟨_, rfl⟩
  rw [hN] at h0 h1 HK ⊢
  clear hN
  go_wp2_with fail
  refine (HK.out _ (HD.out.below G2)).mono ?_
  rintro x w3 ⟨rfl, g3⟩
  have d3 := d2.block (g3.block _ (by omega))
  have r3 := r2.below (by omega) g3
  have G3 : Below w.heap.size w w3 := btr G2 g3 (by omega)
  have s3 : w.heap.size + 2 ≤ w3.heap.size := by have := g3.size; omega
  clear g3 d2 r2 G2 s2
  have t4 := W3.new w3 (K, 0, 0)
  have d4 : W3 (tx w3 (K, 0, 0)) w.heap.size (0, 0, 0) := d3.block ((tx_below w3 (K, 0, 0)).block _ (by omega))
  have r4 := r3.below (by omega) (tx_below w3 (K, 0, 0))
  have G4 : Below w.heap.size w (tx w3 (K, 0, 0)) := btr G3 (tx_below w3 (K, 0, 0)) (by omega)
  clear d3 r3 G3
  go_wp2_with fail
  refine (numR (w.heap.size + 1) (R.skip 2) 2 _ z2 r4).mono ?_
  rintro x w5 ⟨rfl, r5, o5⟩
  have t5 := t4.block (o5.block _ (by omega))
  have d5 := d4.block (o5.block _ (by omega))
  have G5 : Below w.heap.size w w5 := o5.below (by omega) G4
  clear o5 t4 d4 r4 G4
  obtain ⟨B, hB⟩ : ∃ B, w3.heap.size = B := ⟨_, rfl⟩
  rw [hB] at t5 s3 ⊢
  clear hB
  have t5' := t5
  have d5' := d5
  obtain ⟨⟨c0, c1, c2⟩, cf⟩ := t5'
  obtain ⟨⟨e0, e1, e2⟩, ef⟩ := d5'
  go_wp2_with fail
  clear c0 c1 c2 cf e0 e1 e2 ef
  refine (numR (w.heap.size + 1) ((R.skip 2).skip 2) 4 _ z3 r5).mono ?_
  rintro x w6 ⟨rfl, r6, o6⟩
  have t6 := t5.block (o6.block _ (by omega))
  have d6 := d5.block (o6.block _ (by omega))
  have G6 : Below w.heap.size w w6 := o6.below (by omega) G5
  clear o6 t5 d5 r5 G5 r6
  obtain ⟨V, hV⟩ : ∃ V, ((R.skip 2).skip 2).num 4 = V := ⟨_, rfl⟩
  have HV : Hid (((R.skip 2).skip 2).num 4 = V) := hV
  rw [hV]
  clear hV
  have t6' := t6
  have d6' := d6
  obtain ⟨⟨c0, c1, c2⟩, cf⟩ := t6'
  obtain ⟨⟨e0, e1, e2⟩, ef⟩ := d6'
  go_wp2_with fail
  have d7 := d6.block (Below.heap_setCell w6 ⟨B, 2, none⟩ (.int .u64 V) w.heap.size (show w.heap.size ≠ B by omega))
  have d20 : W3 _ w.heap.size (K, 0, V) := ((d7.set0 K).set1 0).set2 V
  refine bodyPost_ret (resT (b := w.heap.size) (t := (K, 0, V)) rfl rfl d20.c) rfl ?_
  refine ⟨by rw [HV.out], ?_⟩
  exact (((G6.setCell (show w.heap.size ≤ B by omega) _).setCell (Nat.le_refl _) _).setCell (Nat.le_refl _) _).setCell (Nat.le_refl _) _
set_option maxHeartbeats 8000000 in
theorem read_2 (R : RS) (K : Int) (w : World) (hs : R.s.size ≤ maxLen) (he : R.e = 0) (hd : Cd w) (hK : Hid (kindV (R.num 2) = K)) (b1 : (K == 1) = false) (b2 : (K == 2) = true) :
    Calls Tryd.prog 73 #[.string R.s] w fun e w' => e = .returned (tV (K, 0, ((R.skip 2).skip 2).num 4)) ∧ Below w.heap.size w w' := by
  have z1 : R.s.size ≤ maxLen := hs
  have z2 := Nat.le_trans (RS.skip_size R 2) z1
  have z3 := Nat.le_trans (RS.skip_size (R.skip 2) 2) z2
  have z4 := Nat.le_trans (RS.skip_size ((R.skip 2).skip 2) 2) z3
  have z5 := Nat.le_trans (RS.skip_size (((R.skip 2).skip 2).skip 2) 1) z4
  have z6 := Nat.le_trans (RS.skip_size ((((R.skip 2).skip 2).skip 2).skip 1) 1) z5
  have hlt := RS.num_lt R 2 (by omega)
  have h0 : 0 ≤ R.num 2 := by simpa using hlt.1
  have h1 : R.num 2 < 65536 := by simpa using hlt.2
  clear hlt
  have HK : Hid (∀ w, Cd w → Calls Tryd.prog 76 #[.int .i64 (R.num 2)] w fun e w' => e = .returned (.int .i64 K) ∧ Below w.heap.size w w') := (show ∀ w, _ from fun w hd => by
    have := kindOf_any (R.num 2) w hd
    rwa [hK.out] at this)
  have HR : Hid (Calls Tryd.prog 36 #[.string R.s] (tx w (0, 0, 0)) fun x w' => x = .returned (.pointer (some ⟨w.heap.size + 1, 0, none⟩)) ∧ Rd w' (w.heap.size + 1) R.s R.e ∧ Below (w.heap.size + 1) (tx w (0, 0, 0)) w' ∧ w'.heap.size = w.heap.size + 2) := (show _ from by
    have := rd_any R.s (tx w (0, 0, 0))
    rw [show (tx w (0, 0, 0)).heap.size = w.heap.size + 1 by simp] at this
    rw [he]
    exact this)
  have HD : Hid (Cd w) := hd
  clear hs he hK hd
  go_enter Tryd.func73, Tryd.ntmps73
  go_wp2_with fail
  refine HR.out.mono ?_
  rintro x w1 ⟨rfl, r1, g1, s1⟩
  have d1 : W3 w1 w.heap.size (0, 0, 0) := (W3.new w (0, 0, 0)).block (g1.block _ (by omega))
  have G1 : Below w.heap.size w w1 := (tx_below w (0, 0, 0)).trans (g1.mono (by omega))
  clear g1
  go_wp2_with fail
  refine (numR (w.heap.size + 1) R 2 _ z1 r1).mono ?_
  rintro x w2 ⟨rfl, r2, o2⟩
  have d2 := d1.block (o2.block _ (by omega))
  have G2 : Below w.heap.size w w2 := o2.below (by omega) G1
  have s2 : w2.heap.size = w.heap.size + 2 := by rw [o2.size, s1]
  clear o2 d1 G1 r1 s1
  obtain ⟨N, hN⟩ : ∃ N, R.num 2 = N := ⟨_, rfl⟩
  rw [hN] at h0 h1 HK ⊢
  clear hN
  go_wp2_with fail
  refine (HK.out _ (HD.out.below G2)).mono ?_
  rintro x w3 ⟨rfl, g3⟩
  have d3 := d2.block (g3.block _ (by omega))
  have r3 := r2.below (by omega) g3
  have G3 : Below w.heap.size w w3 := btr G2 g3 (by omega)
  have s3 : w.heap.size + 2 ≤ w3.heap.size := by have := g3.size; omega
  clear g3 d2 r2 G2 s2
  have t4 := W3.new w3 (K, 0, 0)
  have d4 : W3 (tx w3 (K, 0, 0)) w.heap.size (0, 0, 0) := d3.block ((tx_below w3 (K, 0, 0)).block _ (by omega))
  have r4 := r3.below (by omega) (tx_below w3 (K, 0, 0))
  have G4 : Below w.heap.size w (tx w3 (K, 0, 0)) := btr G3 (tx_below w3 (K, 0, 0)) (by omega)
  clear d3 r3 G3
  go_wp2_with fail
  refine (numR (w.heap.size + 1) (R.skip 2) 2 _ z2 r4).mono ?_
  rintro x w5 ⟨rfl, r5, o5⟩
  have t5 := t4.block (o5.block _ (by omega))
  have d5 := d4.block (o5.block _ (by omega))
  have G5 : Below w.heap.size w w5 := o5.below (by omega) G4
  clear o5 t4 d4 r4 G4
  obtain ⟨B, hB⟩ : ∃ B, w3.heap.size = B := ⟨_, rfl⟩
  rw [hB] at t5 s3 ⊢
  clear hB
  have t5' := t5
  have d5' := d5
  obtain ⟨⟨c0, c1, c2⟩, cf⟩ := t5'
  obtain ⟨⟨e0, e1, e2⟩, ef⟩ := d5'
  go_wp2_with fail
  clear c0 c1 c2 cf e0 e1 e2 ef
  refine (numR (w.heap.size + 1) ((R.skip 2).skip 2) 4 _ z3 r5).mono ?_
  rintro x w6 ⟨rfl, r6, o6⟩
  have t6 := t5.block (o6.block _ (by omega))
  have d6 := d5.block (o6.block _ (by omega))
  have G6 : Below w.heap.size w w6 := o6.below (by omega) G5
  clear o6 t5 d5 r5 G5 r6
  obtain ⟨V, hV⟩ : ∃ V, ((R.skip 2).skip 2).num 4 = V := ⟨_, rfl⟩
  have HV : Hid (((R.skip 2).skip 2).num 4 = V) := hV
  rw [hV]
  clear hV
  have t6' := t6
  have d6' := d6
  obtain ⟨⟨c0, c1, c2⟩, cf⟩ := t6'
  obtain ⟨⟨e0, e1, e2⟩, ef⟩ := d6'
  go_wp2_with fail
  have d7 := d6.block (Below.heap_setCell w6 ⟨B, 2, none⟩ (.int .u64 V) w.heap.size (show w.heap.size ≠ B by omega))
  have d20 : W3 _ w.heap.size (K, 0, V) := ((d7.set0 K).set1 0).set2 V
  refine bodyPost_ret (resT (b := w.heap.size) (t := (K, 0, V)) rfl rfl d20.c) rfl ?_
  refine ⟨by rw [HV.out], ?_⟩
  exact (((G6.setCell (show w.heap.size ≤ B by omega) _).setCell (Nat.le_refl _) _).setCell (Nat.le_refl _) _).setCell (Nat.le_refl _) _
set_option maxHeartbeats 8000000 in
theorem read_5 (R : RS) (K : Int) (w : World) (hs : R.s.size ≤ maxLen) (he : R.e = 0) (hd : Cd w) (hK : Hid (kindV (R.num 2) = K)) (F : Int) (hF : Hid (fldV ((((R.skip 2).skip 2).skip 2).num 1 / 2) = F)) (b1 : (K == 1) = false) (b2 : (K == 2) = false) (b5 : (K == 5) = true) :
    Calls Tryd.prog 73 #[.string R.s] w fun e w' => e = .returned (tV (K, F, (((((R.skip 2).skip 2).skip 2).skip 1).skip 1).num (szV F))) ∧ Below w.heap.size w w' := by
  have z1 : R.s.size ≤ maxLen := hs
  have z2 := Nat.le_trans (RS.skip_size R 2) z1
  have z3 := Nat.le_trans (RS.skip_size (R.skip 2) 2) z2
  have z4 := Nat.le_trans (RS.skip_size ((R.skip 2).skip 2) 2) z3
  have z5 := Nat.le_trans (RS.skip_size (((R.skip 2).skip 2).skip 2) 1) z4
  have z6 := Nat.le_trans (RS.skip_size ((((R.skip 2).skip 2).skip 2).skip 1) 1) z5
  have hlt := RS.num_lt R 2 (by omega)
  have h0 : 0 ≤ R.num 2 := by simpa using hlt.1
  have h1 : R.num 2 < 65536 := by simpa using hlt.2
  clear hlt
  have HK : Hid (∀ w, Cd w → Calls Tryd.prog 76 #[.int .i64 (R.num 2)] w fun e w' => e = .returned (.int .i64 K) ∧ Below w.heap.size w w') := (show ∀ w, _ from fun w hd => by
    have := kindOf_any (R.num 2) w hd
    rwa [hK.out] at this)
  have HR : Hid (Calls Tryd.prog 36 #[.string R.s] (tx w (0, 0, 0)) fun x w' => x = .returned (.pointer (some ⟨w.heap.size + 1, 0, none⟩)) ∧ Rd w' (w.heap.size + 1) R.s R.e ∧ Below (w.heap.size + 1) (tx w (0, 0, 0)) w' ∧ w'.heap.size = w.heap.size + 2) := (show _ from by
    have := rd_any R.s (tx w (0, 0, 0))
    rw [show (tx w (0, 0, 0)).heap.size = w.heap.size + 1 by simp] at this
    rw [he]
    exact this)
  have HD : Hid (Cd w) := hd
  have hl2 := RS.num_lt (((R.skip 2).skip 2).skip 2) 1 (by omega)
  have y0 : 0 ≤ (((R.skip 2).skip 2).skip 2).num 1 := by simpa using hl2.1
  have y1 : (((R.skip 2).skip 2).skip 2).num 1 < 256 := by simpa using hl2.2
  have HF : Hid (∀ w, Cd w → Calls Tryd.prog 77 #[.int .i64 ((((R.skip 2).skip 2).skip 2).num 1 / 2)] w fun e w' => e = .returned (.int .i64 F) ∧ Below w.heap.size w w') := (show ∀ w, _ from fun w hd => by
    have := fieldOf_any ((((R.skip 2).skip 2).skip 2).num 1 / 2) w hd
    rwa [hF.out] at this)
  have HB : Hid (∀ w, Calls Tryd.prog 57 #[.int .i64 F] w fun e w' => e = .returned (.int .i64 (szV F)) ∧ w' = w) := (show ∀ w, _ from fun w => bytesOf_any F w)
  clear hl2 hF
  clear hs he hK hd
  go_enter Tryd.func73, Tryd.ntmps73
  go_wp2_with fail
  refine HR.out.mono ?_
  rintro x w1 ⟨rfl, r1, g1, s1⟩
  have d1 : W3 w1 w.heap.size (0, 0, 0) := (W3.new w (0, 0, 0)).block (g1.block _ (by omega))
  have G1 : Below w.heap.size w w1 := (tx_below w (0, 0, 0)).trans (g1.mono (by omega))
  clear g1
  go_wp2_with fail
  refine (numR (w.heap.size + 1) R 2 _ z1 r1).mono ?_
  rintro x w2 ⟨rfl, r2, o2⟩
  have d2 := d1.block (o2.block _ (by omega))
  have G2 : Below w.heap.size w w2 := o2.below (by omega) G1
  have s2 : w2.heap.size = w.heap.size + 2 := by rw [o2.size, s1]
  clear o2 d1 G1 r1 s1
  obtain ⟨N, hN⟩ : ∃ N, R.num 2 = N := ⟨_, rfl⟩
  rw [hN] at h0 h1 HK ⊢
  clear hN
  go_wp2_with fail
  refine (HK.out _ (HD.out.below G2)).mono ?_
  rintro x w3 ⟨rfl, g3⟩
  have d3 := d2.block (g3.block _ (by omega))
  have r3 := r2.below (by omega) g3
  have G3 : Below w.heap.size w w3 := btr G2 g3 (by omega)
  have s3 : w.heap.size + 2 ≤ w3.heap.size := by have := g3.size; omega
  clear g3 d2 r2 G2 s2
  have t4 := W3.new w3 (K, 0, 0)
  have d4 : W3 (tx w3 (K, 0, 0)) w.heap.size (0, 0, 0) := d3.block ((tx_below w3 (K, 0, 0)).block _ (by omega))
  have r4 := r3.below (by omega) (tx_below w3 (K, 0, 0))
  have G4 : Below w.heap.size w (tx w3 (K, 0, 0)) := btr G3 (tx_below w3 (K, 0, 0)) (by omega)
  clear d3 r3 G3
  go_wp2_with fail
  refine (numR (w.heap.size + 1) (R.skip 2) 2 _ z2 r4).mono ?_
  rintro x w5 ⟨rfl, r5, o5⟩
  have t5 := t4.block (o5.block _ (by omega))
  have d5 := d4.block (o5.block _ (by omega))
  have G5 : Below w.heap.size w w5 := o5.below (by omega) G4
  clear o5 t4 d4 r4 G4
  obtain ⟨B, hB⟩ : ∃ B, w3.heap.size = B := ⟨_, rfl⟩
  rw [hB] at t5 s3 ⊢
  clear hB
  have t5' := t5
  have d5' := d5
  obtain ⟨⟨c0, c1, c2⟩, cf⟩ := t5'
  obtain ⟨⟨e0, e1, e2⟩, ef⟩ := d5'
  go_wp2_with fail
  clear c0 c1 c2 cf e0 e1 e2 ef
  refine (numR (w.heap.size + 1) ((R.skip 2).skip 2) 2 _ z3 r5).mono ?_
  rintro x w6 ⟨rfl, r6, o6⟩
  have t6 := t5.block (o6.block _ (by omega))
  have d6 := d5.block (o6.block _ (by omega))
  have G6 : Below w.heap.size w w6 := o6.below (by omega) G5
  clear o6 t5 d5 r5 G5
  go_wp2_with fail
  refine (numR (w.heap.size + 1) (((R.skip 2).skip 2).skip 2) 1 _ z4 r6).mono ?_
  rintro x w7 ⟨rfl, r7, o7⟩
  have t7 := t6.block (o7.block _ (by omega))
  have d7 := d6.block (o7.block _ (by omega))
  have G7 : Below w.heap.size w w7 := o7.below (by omega) G6
  clear o7 t6 d6 r6 G6
  obtain ⟨Y, hY⟩ : ∃ Y, (((R.skip 2).skip 2).skip 2).num 1 = Y := ⟨_, rfl⟩
  rw [hY] at y0 y1 HF ⊢
  clear hY
  go_wp2_with fail
  have l7 : B < w7.heap.size := World.block_lt_of_cell? w7 ⟨B, 0, none⟩ t7.c.1
  refine (HF.out _ (HD.out.below G7)).mono ?_
  rintro x w8 ⟨rfl, g8⟩
  have t8 := t7.block (g8.block _ l7)
  have d8 := d7.block (g8.block _ (by omega))
  have r8 := r7.below (by omega) g8
  have G8 : Below w.heap.size w w8 := btr G7 g8 (by omega)
  clear g8 t7 d7 r7 G7 l7
  have t8' := t8
  obtain ⟨⟨c0, c1, c2⟩, cf⟩ := t8'
  go_wp2_with fail
  have t9 : W3 (w8.setCell ⟨B, 1, none⟩ (.int .i64 F)) B (K, F, 0) := t8.set1 F
  have d9 := d8.block (Below.heap_setCell w8 ⟨B, 1, none⟩ (.int .i64 F) w.heap.size (show w.heap.size ≠ B by omega))
  have r9 := r8.set (c := B) (by omega) 1 (.int .i64 F)
  have G9 : Below w.heap.size w (w8.setCell ⟨B, 1, none⟩ (.int .i64 F)) := G8.setCell (show w.heap.size ≤ B by omega) _
  clear c0 c1 c2 cf t8 d8 r8 G8
  generalize w8.setCell ⟨B, 1, none⟩ (.int .i64 F) = w9 at *
  refine (numR (w.heap.size + 1) ((((R.skip 2).skip 2).skip 2).skip 1) 1 _ z5 r9).mono ?_
  rintro x w10 ⟨rfl, r10, o10⟩
  have t10 := t9.block (o10.block _ (by omega))
  have d10 := d9.block (o10.block _ (by omega))
  have G10 : Below w.heap.size w w10 := o10.below (by omega) G9
  clear o10 t9 d9 r9 G9
  have t10' := t10
  obtain ⟨⟨c0, c1, c2⟩, cf⟩ := t10'
  go_wp2_with fail
  refine (HB.out _).mono ?_
  rintro x w11 ⟨rfl, rfl⟩
  clear c0 c1 c2 cf
  go_wp2_with fail
  refine (numR (w.heap.size + 1) (((((R.skip 2).skip 2).skip 2).skip 1).skip 1) (szV F) _ z6 r10).mono ?_
  rintro x w12 ⟨rfl, r12, o12⟩
  have t12 := t10.block (o12.block _ (by omega))
  have d12 := d10.block (o12.block _ (by omega))
  have G12 : Below w.heap.size w w12 := o12.below (by omega) G10
  clear o12 t10 d10 r10 G10 r12
  obtain ⟨V, hV⟩ : ∃ V, (((((R.skip 2).skip 2).skip 2).skip 1).skip 1).num (szV F) = V := ⟨_, rfl⟩
  have HV : Hid ((((((R.skip 2).skip 2).skip 2).skip 1).skip 1).num (szV F) = V) := hV
  rw [hV]
  clear hV
  have t12' := t12
  have d12' := d12
  obtain ⟨⟨c0, c1, c2⟩, cf⟩ := t12'
  obtain ⟨⟨e0, e1, e2⟩, ef⟩ := d12'
  go_wp2_with fail
  have d13 := d12.block (Below.heap_setCell w12 ⟨B, 2, none⟩ (.int .u64 V) w.heap.size (show w.heap.size ≠ B by omega))
  have d20 : W3 _ w.heap.size (K, F, V) := ((d13.set0 K).set1 F).set2 V
  refine bodyPost_ret (resT (b := w.heap.size) (t := (K, F, V)) rfl rfl d20.c) rfl ?_
  refine ⟨by rw [HV.out], ?_⟩
  exact (((G12.setCell (show w.heap.size ≤ B by omega) _).setCell (Nat.le_refl _) _).setCell (Nat.le_refl _) _).setCell (Nat.le_refl _) _
theorem readA_any (d : ByteArray) (w : World) (hs : d.size ≤ maxLen) (hd : Cd w) :
    Calls Tryd.prog 73 #[.string d] w fun e w' => e = .returned (tV (readV d)) ∧ Below w.heap.size w w' := by
  unfold readV
  obtain ⟨R, hR⟩ : ∃ R : RS, (⟨d, 0⟩ : RS) = R := ⟨_, rfl⟩
  have hRs : d = R.s := by rw [← hR]
  have hRe : R.e = 0 := by rw [← hR]
  rw [hR]
  rw [hRs] at hs ⊢
  clear hR hRs
  by_cases h1 : kindV (R.num 2) = 1
  · rw [if_pos (.inl h1)]
    exact read_1 R _ w hs hRe hd (show _ = _ from rfl) (by simp [h1])
  · by_cases h2 : kindV (R.num 2) = 2
    · rw [if_pos (.inr h2)]
      exact read_2 R _ w hs hRe hd (show _ = _ from rfl) (by simp [h1]) (by simp [h2])
    · rw [if_neg (by simp [h1, h2])]
      by_cases h5 : kindV (R.num 2) = 5
      · rw [if_pos h5]
        have := read_5 R _ w hs hRe hd (show kindV (R.num 2) = 5 from h5) _ (show _ = _ from rfl) (by decide) (by decide) (by decide)
        exact this
      · rw [if_neg h5]
        exact read_n R _ w hs hRe hd (show _ = _ from rfl) (by simp [h1]) (by simp [h2]) (by simp [h5])
end Go.Proofs.YtcbhkbiofmimbaaDoor
