/-
  The document's Change, as a contract; the walk of ActChanges.
-/
import Derived.Test.YtmlonfchbkmbcaaDoorAwake
import Derived.Test.YtmlonfchbkmbcaaDoorFChange
import Derived.Test.YtmlonfchbkmbcaaDoorFRef
import Derived.Deep.MidRow
namespace Go.Proofs.YtmlonfchbkmbcaaDoor
open Go.ChangeShapes Go.WideShapes Go.ChangeAt Go.RowKit

/-- The four blocks of the document's Change. -/
abbrev four (w : World) (s : Sn) (a : A) : World := (((rx w s).alloc (.cells (tC a) 31)).alloc (.cells (snC sn0) 42)).alloc (.cells (snC s) 42)
theorem al1 {w : World} {b : Nat} {s : Sn} (h : Bx w b s) (hb : b < w.heap.size) (o : Obj) : Bx (w.alloc o) b s := h.below (B := w.heap.size) hb ((Below.refl _ _).alloc (Nat.le_refl _) o)
theorem al2 {w : World} {b : Nat} {s : Sn} (h : Bw w b s) (hb : b < w.heap.size) (o : Obj) : Bw (w.alloc o) b s := h.below (B := w.heap.size) hb ((Below.refl _ _).alloc (Nat.le_refl _) o)
theorem Bx.four0 (w : World) (s : Sn) (a : A) : Bx (four w s a) w.heap.size s := al1 (al1 (al1 (Bx.newr w s) (by simp) _) (by first | (simp; done) | (simp; omega)) _) (by first | (simp; done) | (simp; omega)) _
theorem Bw.four2 (w : World) (s : Sn) (a : A) : Bw (four w s a) (w.heap.size + 2) sn0 := by
  have h := Bw.newr ((rx w s).alloc (.cells (tC a) 31)) sn0
  have e : ((rx w s).alloc (.cells (tC a) 31)).heap.size = w.heap.size + 2 := by simp
  rw [e] at h
  exact al2 h (by simp) _
theorem Bw.four3 (w : World) (s : Sn) (a : A) : Bw (four w s a) (w.heap.size + 3) s := by
  have h := Bw.newr (((rx w s).alloc (.cells (tC a) 31)).alloc (.cells (snC sn0) 42)) s
  have e : (((rx w s).alloc (.cells (tC a) 31)).alloc (.cells (snC sn0) 42)).heap.size = w.heap.size + 3 := by simp
  rw [e] at h
  exact h
theorem hi13 (t : Sn) : (Tryd.prog.info? 42).map (·.size) = some (snC t).size := by kernel_rfl
theorem one13 (t : Sn) : (snC t).all (·.oneCell') = true := by simp [Value.oneCell']
theorem bw_there {w : World} {b : Nat} {s : Sn} (h : Bw w b s) : w.there b 0 13 := by
  intro j hj
  obtain ⟨⟨h0, h1, h2, h3, h4, h5, h6, h7, h8, h9, h10, h11, h12⟩, hf⟩ := h
  refine ⟨?_, hf _⟩
  match j, hj with
  | 0, _ => simp [h0]
  | 1, _ => simp [h1]
  | 2, _ => simp [h2]
  | 3, _ => simp [h3]
  | 4, _ => simp [h4]
  | 5, _ => simp [h5]
  | 6, _ => simp [h6]
  | 7, _ => simp [h7]
  | 8, _ => simp [h8]
  | 9, _ => simp [h9]
  | 10, _ => simp [h10]
  | 11, _ => simp [h11]
  | 12, _ => simp [h12]
theorem bx_set {w : World} {b : Nat} {s : Sn} (h : Bw w b s) (t : Sn) : Bx (w.setCells b 0 (snC t).toList) b t := by
  have r := World.rangeAt_setCells_same w b 0 (snC t).toList (bw_there h)
  exact ⟨r 0 _ rfl, r 1 _ rfl, r 2 _ rfl, r 3 _ rfl, r 4 _ rfl, r 5 _ rfl, r 6 _ rfl, r 7 _ rfl, r 8 _ rfl, r 9 _ rfl, r 10 _ rfl, r 11 _ rfl, r 12 _ rfl⟩
theorem bx_out {w : World} {b c : Nat} {s : Sn} (h : Bx w b s) (t : Sn) (hbc : b ≠ c) : Bx (w.setCells c 0 (snC t).toList) b s := by
  obtain ⟨h0, h1, h2, h3, h4, h5, h6, h7, h8, h9, h10, h11, h12⟩ := h
  have q : ∀ p, (w.setCells c 0 (snC t).toList).cell? ⟨b, p, none⟩ = w.cell? ⟨b, p, none⟩ := fun p => World.cell?_setCells_out c _ 0 w _ (fun e => absurd e hbc)
  exact ⟨(q _).trans h0, (q _).trans h1, (q _).trans h2, (q _).trans h3, (q _).trans h4, (q _).trans h5, (q _).trans h6, (q _).trans h7, (q _).trans h8, (q _).trans h9, (q _).trans h10, (q _).trans h11, (q _).trans h12⟩
theorem bw_set {w : World} {b c : Nat} {s : Sn} (h : Bw w b s) (t : Sn) (hbc : b ≠ c) : Bw (w.setCells c 0 (snC t).toList) b s :=
  ⟨bx_out h.1 t hbc, fun i => by rw [World.frozen?_setCells]; exact h.2 i⟩
theorem below_cells {a : World} {k c : Nat} (hk : k ≤ c) : ∀ (vs : List Value) (o : Nat) (w : World), Below k a w → Below k a (w.setCells c o vs)
  | [], _, _, g => g
  | _ :: r, o, _, g => below_cells hk r (o + 1) _ (g.setCell hk _)
theorem below_set {a w : World} {k c : Nat} (t : Sn) (g : Below k a w) (hk : k ≤ c) : Below k a (w.setCells c 0 (snC t).toList) := below_cells hk _ _ _ g
set_option maxHeartbeats 16000000 in
theorem rch_3g (f v : Int) (s t : Sn) (e : Int) (w : World) (he : (e != 0) = false) (HH : Hid (∀ w, Calls Tryd.prog 33 #[snV s, .int .u64 0] w fun x w' => x = .returned (.tuple #[snV t, .int .i64 e]) ∧ Below w.heap.size w w')) :
    Calls Tryd.prog 19 #[snV s, tV (3, f, v)] w fun x w' => x = .returned (snV t) ∧ Below w.heap.size w w' := by
  go_enter Tryd.func19, Tryd.ntmps19
  go_wp2_with fail
  refine (HH.out _).mono ?_
  rintro x w1 ⟨rfl, g1⟩
  have A0 := (Bx.four0 w s (3, f, v)).below (by first | (simp; done) | (simp; omega)) g1
  have D2 := (Bw.four2 w s (3, f, v)).below (by first | (simp; done) | (simp; omega)) g1
  have D3 := (Bw.four3 w s (3, f, v)).below (by simp) g1
  have G1 : Below w.heap.size w w1 := btr (by go_grown) g1 (by first | (simp; done) | (simp; omega))
  have L1 : w.heap.size + 4 ≤ w1.heap.size := by have := g1.size; simp at this; omega
  clear g1
  obtain ⟨w2, hw2⟩ : ∃ w2, w1.setCells (w.heap.size + 3) 0 (snC t).toList = w2 := ⟨_, rfl⟩
  have ht : w1.there (w.heap.size + 3) 0 (snC t).size := bw_there D3
  have F3 : Bx w2 (w.heap.size + 3) t := hw2 ▸ bx_set D3 t
  have F2 : Bw w2 (w.heap.size + 2) sn0 := hw2 ▸ bw_set D2 t (by omega)
  have F0 : Bx w2 w.heap.size s := hw2 ▸ bx_out A0 t (by omega)
  have G2 : Below w.heap.size w w2 := hw2 ▸ below_set t G1 (by omega)
  have HT : Hid (w1.there (w.heap.size + 3) 0 (snC t).size) := ht
  have HW : Hid (w1.setCells (w.heap.size + 3) 0 (snC t).toList = w2) := hw2
  clear A0 D2 D3 ht hw2 G1
  have E2 := F2
  obtain ⟨⟨c0, c1, c2, c3, c4, c5, c6, c7, c8, c9, c10, c11, c12⟩, cf⟩ := F2
  obtain ⟨d0, d1, d2, d3, d4, d5, d6, d7, d8, d9, d10, d11, d12⟩ := F3
  obtain ⟨a0, a1, a2, a3, a4, a5, a6, a7, a8, a9, a10, a11, a12⟩ := F0
  go_wp2_with (refine wpList_store_mid rfl 42 (.tmp 5) _ rfl (w.heap.size + 3) 0 (snC t) rfl rfl HT.out (hi13 t) (one13 t) ?_; rw [HW.out])
  refine bodyPost_ret (res32 (b := w.heap.size + 2) (s := t) rfl rfl (E2.setAll t).1) rfl ?_
  exact ⟨rfl, below_setAll t G2 (by omega)⟩
set_option maxHeartbeats 16000000 in
theorem rch_3b (f v : Int) (s t : Sn) (e : Int) (w : World) (he : (e != 0) = true) (HH : Hid (∀ w, Calls Tryd.prog 33 #[snV s, .int .u64 0] w fun x w' => x = .returned (.tuple #[snV t, .int .i64 e]) ∧ Below w.heap.size w w')) :
    Calls Tryd.prog 19 #[snV s, tV (3, f, v)] w fun x w' => x = .returned (snV s) ∧ Below w.heap.size w w' := by
  go_enter Tryd.func19, Tryd.ntmps19
  go_wp2_with fail
  refine (HH.out _).mono ?_
  rintro x w1 ⟨rfl, g1⟩
  have A0 := (Bx.four0 w s (3, f, v)).below (by first | (simp; done) | (simp; omega)) g1
  have D2 := (Bw.four2 w s (3, f, v)).below (by first | (simp; done) | (simp; omega)) g1
  have D3 := (Bw.four3 w s (3, f, v)).below (by simp) g1
  have G1 : Below w.heap.size w w1 := btr (by go_grown) g1 (by first | (simp; done) | (simp; omega))
  have L1 : w.heap.size + 4 ≤ w1.heap.size := by have := g1.size; simp at this; omega
  clear g1
  obtain ⟨w2, hw2⟩ : ∃ w2, w1.setCells (w.heap.size + 3) 0 (snC t).toList = w2 := ⟨_, rfl⟩
  have ht : w1.there (w.heap.size + 3) 0 (snC t).size := bw_there D3
  have F3 : Bx w2 (w.heap.size + 3) t := hw2 ▸ bx_set D3 t
  have F2 : Bw w2 (w.heap.size + 2) sn0 := hw2 ▸ bw_set D2 t (by omega)
  have F0 : Bx w2 w.heap.size s := hw2 ▸ bx_out A0 t (by omega)
  have G2 : Below w.heap.size w w2 := hw2 ▸ below_set t G1 (by omega)
  have HT : Hid (w1.there (w.heap.size + 3) 0 (snC t).size) := ht
  have HW : Hid (w1.setCells (w.heap.size + 3) 0 (snC t).toList = w2) := hw2
  clear A0 D2 D3 ht hw2 G1
  have E2 := F2
  obtain ⟨⟨c0, c1, c2, c3, c4, c5, c6, c7, c8, c9, c10, c11, c12⟩, cf⟩ := F2
  obtain ⟨d0, d1, d2, d3, d4, d5, d6, d7, d8, d9, d10, d11, d12⟩ := F3
  obtain ⟨a0, a1, a2, a3, a4, a5, a6, a7, a8, a9, a10, a11, a12⟩ := F0
  go_wp2_with (refine wpList_store_mid rfl 42 (.tmp 5) _ rfl (w.heap.size + 3) 0 (snC t) rfl rfl HT.out (hi13 t) (one13 t) ?_; rw [HW.out])
  refine bodyPost_ret (res32 (b := w.heap.size + 2) (s := s) rfl rfl (E2.setAll s).1) rfl ?_
  exact ⟨rfl, below_setAll s G2 (by omega)⟩
set_option maxHeartbeats 16000000 in
theorem rch_4g (f v : Int) (s t : Sn) (e : Int) (w : World) (he : (e != 0) = false) (HH : Hid (∀ w, Calls Tryd.prog 34 #[snV s] w fun x w' => x = .returned (.tuple #[snV t, .int .i64 e]) ∧ Below w.heap.size w w')) :
    Calls Tryd.prog 19 #[snV s, tV (4, f, v)] w fun x w' => x = .returned (snV t) ∧ Below w.heap.size w w' := by
  go_enter Tryd.func19, Tryd.ntmps19
  go_wp2_with fail
  refine (HH.out _).mono ?_
  rintro x w1 ⟨rfl, g1⟩
  have A0 := (Bx.four0 w s (4, f, v)).below (by first | (simp; done) | (simp; omega)) g1
  have D2 := (Bw.four2 w s (4, f, v)).below (by first | (simp; done) | (simp; omega)) g1
  have D3 := (Bw.four3 w s (4, f, v)).below (by simp) g1
  have G1 : Below w.heap.size w w1 := btr (by go_grown) g1 (by first | (simp; done) | (simp; omega))
  have L1 : w.heap.size + 4 ≤ w1.heap.size := by have := g1.size; simp at this; omega
  clear g1
  obtain ⟨w2, hw2⟩ : ∃ w2, w1.setCells (w.heap.size + 3) 0 (snC t).toList = w2 := ⟨_, rfl⟩
  have ht : w1.there (w.heap.size + 3) 0 (snC t).size := bw_there D3
  have F3 : Bx w2 (w.heap.size + 3) t := hw2 ▸ bx_set D3 t
  have F2 : Bw w2 (w.heap.size + 2) sn0 := hw2 ▸ bw_set D2 t (by omega)
  have F0 : Bx w2 w.heap.size s := hw2 ▸ bx_out A0 t (by omega)
  have G2 : Below w.heap.size w w2 := hw2 ▸ below_set t G1 (by omega)
  have HT : Hid (w1.there (w.heap.size + 3) 0 (snC t).size) := ht
  have HW : Hid (w1.setCells (w.heap.size + 3) 0 (snC t).toList = w2) := hw2
  clear A0 D2 D3 ht hw2 G1
  have E2 := F2
  obtain ⟨⟨c0, c1, c2, c3, c4, c5, c6, c7, c8, c9, c10, c11, c12⟩, cf⟩ := F2
  obtain ⟨d0, d1, d2, d3, d4, d5, d6, d7, d8, d9, d10, d11, d12⟩ := F3
  obtain ⟨a0, a1, a2, a3, a4, a5, a6, a7, a8, a9, a10, a11, a12⟩ := F0
  go_wp2_with (refine wpList_store_mid rfl 42 (.tmp 5) _ rfl (w.heap.size + 3) 0 (snC t) rfl rfl HT.out (hi13 t) (one13 t) ?_; rw [HW.out])
  refine bodyPost_ret (res32 (b := w.heap.size + 2) (s := t) rfl rfl (E2.setAll t).1) rfl ?_
  exact ⟨rfl, below_setAll t G2 (by omega)⟩
set_option maxHeartbeats 16000000 in
theorem rch_4b (f v : Int) (s t : Sn) (e : Int) (w : World) (he : (e != 0) = true) (HH : Hid (∀ w, Calls Tryd.prog 34 #[snV s] w fun x w' => x = .returned (.tuple #[snV t, .int .i64 e]) ∧ Below w.heap.size w w')) :
    Calls Tryd.prog 19 #[snV s, tV (4, f, v)] w fun x w' => x = .returned (snV s) ∧ Below w.heap.size w w' := by
  go_enter Tryd.func19, Tryd.ntmps19
  go_wp2_with fail
  refine (HH.out _).mono ?_
  rintro x w1 ⟨rfl, g1⟩
  have A0 := (Bx.four0 w s (4, f, v)).below (by first | (simp; done) | (simp; omega)) g1
  have D2 := (Bw.four2 w s (4, f, v)).below (by first | (simp; done) | (simp; omega)) g1
  have D3 := (Bw.four3 w s (4, f, v)).below (by simp) g1
  have G1 : Below w.heap.size w w1 := btr (by go_grown) g1 (by first | (simp; done) | (simp; omega))
  have L1 : w.heap.size + 4 ≤ w1.heap.size := by have := g1.size; simp at this; omega
  clear g1
  obtain ⟨w2, hw2⟩ : ∃ w2, w1.setCells (w.heap.size + 3) 0 (snC t).toList = w2 := ⟨_, rfl⟩
  have ht : w1.there (w.heap.size + 3) 0 (snC t).size := bw_there D3
  have F3 : Bx w2 (w.heap.size + 3) t := hw2 ▸ bx_set D3 t
  have F2 : Bw w2 (w.heap.size + 2) sn0 := hw2 ▸ bw_set D2 t (by omega)
  have F0 : Bx w2 w.heap.size s := hw2 ▸ bx_out A0 t (by omega)
  have G2 : Below w.heap.size w w2 := hw2 ▸ below_set t G1 (by omega)
  have HT : Hid (w1.there (w.heap.size + 3) 0 (snC t).size) := ht
  have HW : Hid (w1.setCells (w.heap.size + 3) 0 (snC t).toList = w2) := hw2
  clear A0 D2 D3 ht hw2 G1
  have E2 := F2
  obtain ⟨⟨c0, c1, c2, c3, c4, c5, c6, c7, c8, c9, c10, c11, c12⟩, cf⟩ := F2
  obtain ⟨d0, d1, d2, d3, d4, d5, d6, d7, d8, d9, d10, d11, d12⟩ := F3
  obtain ⟨a0, a1, a2, a3, a4, a5, a6, a7, a8, a9, a10, a11, a12⟩ := F0
  go_wp2_with (refine wpList_store_mid rfl 42 (.tmp 5) _ rfl (w.heap.size + 3) 0 (snC t) rfl rfl HT.out (hi13 t) (one13 t) ?_; rw [HW.out])
  refine bodyPost_ret (res32 (b := w.heap.size + 2) (s := s) rfl rfl (E2.setAll s).1) rfl ?_
  exact ⟨rfl, below_setAll s G2 (by omega)⟩
set_option maxHeartbeats 16000000 in
theorem rch_5g (f v : Int) (s t : Sn) (e : Int) (w : World) (he : (e != 0) = false) (HH : Hid (∀ w, Calls Tryd.prog 35 #[snV s, .int .i64 f, .int .u64 v] w fun x w' => x = .returned (.tuple #[snV t, .int .i64 e]) ∧ Below w.heap.size w w')) :
    Calls Tryd.prog 19 #[snV s, tV (5, f, v)] w fun x w' => x = .returned (snV t) ∧ Below w.heap.size w w' := by
  go_enter Tryd.func19, Tryd.ntmps19
  go_wp2_with fail
  refine (HH.out _).mono ?_
  rintro x w1 ⟨rfl, g1⟩
  have A0 := (Bx.four0 w s (5, f, v)).below (by first | (simp; done) | (simp; omega)) g1
  have D2 := (Bw.four2 w s (5, f, v)).below (by first | (simp; done) | (simp; omega)) g1
  have D3 := (Bw.four3 w s (5, f, v)).below (by simp) g1
  have G1 : Below w.heap.size w w1 := btr (by go_grown) g1 (by first | (simp; done) | (simp; omega))
  have L1 : w.heap.size + 4 ≤ w1.heap.size := by have := g1.size; simp at this; omega
  clear g1
  obtain ⟨w2, hw2⟩ : ∃ w2, w1.setCells (w.heap.size + 3) 0 (snC t).toList = w2 := ⟨_, rfl⟩
  have ht : w1.there (w.heap.size + 3) 0 (snC t).size := bw_there D3
  have F3 : Bx w2 (w.heap.size + 3) t := hw2 ▸ bx_set D3 t
  have F2 : Bw w2 (w.heap.size + 2) sn0 := hw2 ▸ bw_set D2 t (by omega)
  have F0 : Bx w2 w.heap.size s := hw2 ▸ bx_out A0 t (by omega)
  have G2 : Below w.heap.size w w2 := hw2 ▸ below_set t G1 (by omega)
  have HT : Hid (w1.there (w.heap.size + 3) 0 (snC t).size) := ht
  have HW : Hid (w1.setCells (w.heap.size + 3) 0 (snC t).toList = w2) := hw2
  clear A0 D2 D3 ht hw2 G1
  have E2 := F2
  obtain ⟨⟨c0, c1, c2, c3, c4, c5, c6, c7, c8, c9, c10, c11, c12⟩, cf⟩ := F2
  obtain ⟨d0, d1, d2, d3, d4, d5, d6, d7, d8, d9, d10, d11, d12⟩ := F3
  obtain ⟨a0, a1, a2, a3, a4, a5, a6, a7, a8, a9, a10, a11, a12⟩ := F0
  go_wp2_with (refine wpList_store_mid rfl 42 (.tmp 5) _ rfl (w.heap.size + 3) 0 (snC t) rfl rfl HT.out (hi13 t) (one13 t) ?_; rw [HW.out])
  refine bodyPost_ret (res32 (b := w.heap.size + 2) (s := t) rfl rfl (E2.setAll t).1) rfl ?_
  exact ⟨rfl, below_setAll t G2 (by omega)⟩
set_option maxHeartbeats 16000000 in
theorem rch_5b (f v : Int) (s t : Sn) (e : Int) (w : World) (he : (e != 0) = true) (HH : Hid (∀ w, Calls Tryd.prog 35 #[snV s, .int .i64 f, .int .u64 v] w fun x w' => x = .returned (.tuple #[snV t, .int .i64 e]) ∧ Below w.heap.size w w')) :
    Calls Tryd.prog 19 #[snV s, tV (5, f, v)] w fun x w' => x = .returned (snV s) ∧ Below w.heap.size w w' := by
  go_enter Tryd.func19, Tryd.ntmps19
  go_wp2_with fail
  refine (HH.out _).mono ?_
  rintro x w1 ⟨rfl, g1⟩
  have A0 := (Bx.four0 w s (5, f, v)).below (by first | (simp; done) | (simp; omega)) g1
  have D2 := (Bw.four2 w s (5, f, v)).below (by first | (simp; done) | (simp; omega)) g1
  have D3 := (Bw.four3 w s (5, f, v)).below (by simp) g1
  have G1 : Below w.heap.size w w1 := btr (by go_grown) g1 (by first | (simp; done) | (simp; omega))
  have L1 : w.heap.size + 4 ≤ w1.heap.size := by have := g1.size; simp at this; omega
  clear g1
  obtain ⟨w2, hw2⟩ : ∃ w2, w1.setCells (w.heap.size + 3) 0 (snC t).toList = w2 := ⟨_, rfl⟩
  have ht : w1.there (w.heap.size + 3) 0 (snC t).size := bw_there D3
  have F3 : Bx w2 (w.heap.size + 3) t := hw2 ▸ bx_set D3 t
  have F2 : Bw w2 (w.heap.size + 2) sn0 := hw2 ▸ bw_set D2 t (by omega)
  have F0 : Bx w2 w.heap.size s := hw2 ▸ bx_out A0 t (by omega)
  have G2 : Below w.heap.size w w2 := hw2 ▸ below_set t G1 (by omega)
  have HT : Hid (w1.there (w.heap.size + 3) 0 (snC t).size) := ht
  have HW : Hid (w1.setCells (w.heap.size + 3) 0 (snC t).toList = w2) := hw2
  clear A0 D2 D3 ht hw2 G1
  have E2 := F2
  obtain ⟨⟨c0, c1, c2, c3, c4, c5, c6, c7, c8, c9, c10, c11, c12⟩, cf⟩ := F2
  obtain ⟨d0, d1, d2, d3, d4, d5, d6, d7, d8, d9, d10, d11, d12⟩ := F3
  obtain ⟨a0, a1, a2, a3, a4, a5, a6, a7, a8, a9, a10, a11, a12⟩ := F0
  go_wp2_with (refine wpList_store_mid rfl 42 (.tmp 5) _ rfl (w.heap.size + 3) 0 (snC t) rfl rfl HT.out (hi13 t) (one13 t) ?_; rw [HW.out])
  refine bodyPost_ret (res32 (b := w.heap.size + 2) (s := s) rfl rfl (E2.setAll s).1) rfl ?_
  exact ⟨rfl, below_setAll s G2 (by omega)⟩
theorem Bx.rthird (w : World) (s : Sn) (a : A) : Bx ((((rx w s).alloc (.cells (tC a) 31)).alloc (.cells (snC s) 42)).alloc (.cells (snC s) 42)) (w.heap.size + 2) s := by
  have h := Bx.newr ((rx w s).alloc (.cells (tC a) 31)) s
  have e : ((rx w s).alloc (.cells (tC a) 31)).heap.size = w.heap.size + 2 := by simp
  rw [e] at h
  exact al1 h (by simp) _
set_option maxHeartbeats 16000000 in
theorem rch_n (k f v : Int) (s : Sn) (w : World) (b3 : (k == 3) = false) (b4 : (k == 4) = false) (b5 : (k == 5) = false) :
    Calls Tryd.prog 19 #[snV s, tV (k, f, v)] w fun x w' => x = .returned (snV s) ∧ Below w.heap.size w w' := by
  go_enter Tryd.func19, Tryd.ntmps19
  go_wp2
  refine bodyPost_ret (res32 (b := w.heap.size + 2) (s := s) rfl rfl (Bx.rthird w s (k, f, v))) rfl ?_
  exact ⟨rfl, by go_grown⟩
theorem rchg_any (s : Sn) (a : A) (w : World) (hw : AW a) : Calls Tryd.prog 19 #[snV s, tV a] w fun x w' => x = .returned (snV (changeV s a)) ∧ Below w.heap.size w w' := by
  obtain ⟨k, f, v⟩ := a
  unfold changeV
  by_cases h3 : k = 3
  · subst h3
    have e1 : chE s (3, f, v) = pushE s 0 := rfl
    have e2 : chS s (3, f, v) = pushS s 0 := rfl
    rw [e1, e2]
    by_cases h : pushE s 0 = 0
    · rw [if_pos h]; exact rch_3g f v s (pushS s 0) (pushE s 0) w (by simp [h]) (show ∀ w, _ from fun w => rpush_any s 0 w (Int.le_refl _))
    · rw [if_neg h]; exact rch_3b f v s (pushS s 0) (pushE s 0) w (by simpa using h) (show ∀ w, _ from fun w => rpush_any s 0 w (Int.le_refl _))
  · by_cases h4 : k = 4
    · subst h4
      have e1 : chE s (4, f, v) = popE s := rfl
      have e2 : chS s (4, f, v) = popS s := rfl
      rw [e1, e2]
      by_cases h : popE s = 0
      · rw [if_pos h]; exact rch_4g f v s (popS s) (popE s) w (by simp [h]) (show ∀ w, _ from fun w => rpop_any s w)
      · rw [if_neg h]; exact rch_4b f v s (popS s) (popE s) w (by simpa using h) (show ∀ w, _ from fun w => rpop_any s w)
    · by_cases h5 : k = 5
      · subst h5
        have e1 : chE s (5, f, v) = putE s f v := rfl
        have e2 : chS s (5, f, v) = putS s f v := rfl
        rw [e1, e2]
        by_cases h : putE s f v = 0
        · rw [if_pos h]; exact rch_5g f v s (putS s f v) (putE s f v) w (by simp [h]) (show ∀ w, _ from fun w => rfput_any s f v w hw.v0 hw.v1)
        · rw [if_neg h]; exact rch_5b f v s (putS s f v) (putE s f v) w (by simpa using h) (show ∀ w, _ from fun w => rfput_any s f v w hw.v0 hw.v1)
      · have e1 : chS s (k, f, v) = s := by simp [chS, h3, h4, h5]
        rw [e1]
        have := rch_n k f v s w (by simp [h3]) (by simp [h4]) (by simp [h5])
        split <;> exact this
set_option maxHeartbeats 16000000 in
theorem changes_walk (s : Sn) (a : A) (w : World) (_ : Wf s) (hw : AW a) (hd : Cd w) : Calls Tryd.prog 5 #[snV s, tV a] w fun x w' => x = .returned (.bool true) ∧ Below w.heap.size w w' := by
  obtain ⟨T, hT⟩ : ∃ T, changeV s a = T := ⟨_, rfl⟩
  have HA : Hid (∀ w, Cd w → Calls Tryd.prog 9 #[] w fun e w' => e = .returned (.bool true) ∧ Below w.heap.size w w') := (show ∀ w, _ from fun w h => awake_any w h)
  have HC : Hid (∀ w, Calls Tryd.prog 18 #[snV s, tV a] w fun x w' => x = .returned (snV T) ∧ Below w.heap.size w w') := (show ∀ w, _ from fun w => hT ▸ chg_any s a w hw)
  have HR : Hid (∀ w, Calls Tryd.prog 19 #[snV s, tV a] w fun x w' => x = .returned (snV T) ∧ Below w.heap.size w w') := (show ∀ w, _ from fun w => hT ▸ rchg_any s a w hw)
  have HP : Hid (∀ t w, Calls Tryd.prog 17 #[snV t] w fun e w' => e = .returned (snV t) ∧ Below w.heap.size w w') := (show ∀ t w, _ from fun t w => plain_any t w)
  have e1 : (bx w s).heap.size = w.heap.size + 1 := by simp
  obtain ⟨W, hW⟩ : ∃ W, (bx w s).alloc (.cells (tC a) 31) = W := ⟨_, rfl⟩
  have ca : C3 W (w.heap.size + 1) 0 a := by
    have h := C3.new (bx w s) a
    rw [e1] at h
    exact hW ▸ h
  have cs : Bx W w.heap.size s := hW ▸ al1 (Bx.new w s) (by simp) _
  have lW : W.heap.size = w.heap.size + 2 := by rw [← hW]; simp
  have gW : Below w.heap.size w W := by rw [← hW]; go_grown
  have qa : ∀ n : GrT W, C3 n.w (w.heap.size + 1) 0 a := fun n => ca.below (by omega) n.h
  have qs : ∀ n : GrT W, Bx n.w w.heap.size s := fun n => cs.below (by omega) n.h
  have HDn : Hid (∀ n : GrT W, Cd n.w) := (show ∀ n : GrT W, Cd n.w from fun n => (hd.below gW).below n.h)
  have HW : Hid ((bx w s).alloc (.cells (tC a) 31) = W) := hW
  clear hT hw hd e1 hW
  go_enter Tryd.func5, Tryd.ntmps5
  go_wp2_with fail
  have hW := HW.out
  simp only [bx, snC, tC] at hW
  rw [hW]
  clear hW
  refine wp_region_grow (by kernel_rfl) (by kernel_rfl) ?_
  repeat (go_big_quiet_step ((first | (go_at_call 9; exact quiet_gr (HA.out _ (HDn.out _))) | (go_at_call 18; exact quiet_gr (HC.out _)) | (go_at_call 19; exact quiet_gr (HR.out _)) | (go_at_call_of 17 (Value.int IntKind.i64 s.inp); exact quiet_gr (HP.out s _)) | (go_at_call_of 17 (snV T); exact quiet_gr (HP.out T _)))))
  refine wpQuiet_nil ?_
  rintro w2 hw'
  have g2 := gr_elim hw'
  clear hw' qa qs
  go_wp2_with fail
  go_ret
  exact ⟨rfl, btr gW g2 (by omega)⟩
end Go.Proofs.YtmlonfchbkmbcaaDoor
