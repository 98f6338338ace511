/-
  What readTest and read answer, as contracts.
-/
import Derived.Test.YtjmnnjhaiecglaaDoorRead
namespace Go.Proofs.YtjmnnjhaiecglaaDoor
open Go.ChangeShapes Go.WideShapes Go.ChangeAt Go.RowKit

/-- A test's block that may be written. -/
structure W3 (w : World) (b : Nat) (t : T) : Prop where
  c : C3 w b 0 t
  f : ∀ o, w.frozen? ⟨b, o, none⟩ = false
theorem W3.block {w w' : World} {b : Nat} {t : T} (h : W3 w b t) (g : w'.heap[b]? = w.heap[b]?) : W3 w' b t :=
  ⟨h.c.block g, fun o => (World.frozen?_of_block (w := w) g).trans (h.f o)⟩
theorem W3.new (w : World) (t : T) : W3 (tx w t) w.heap.size t := ⟨C3.new w t, by simp [tx]⟩
theorem W3.set0 {w : World} {b : Nat} {t : T} (h : W3 w b t) (x : Int) : W3 (w.setCell ⟨b, 0, none⟩ (.int .i64 x)) b (x, t.2.1, t.2.2) := by
  obtain ⟨⟨c0, c1, c2⟩, f⟩ := h
  exact ⟨⟨World.cell?_setCell_same _ _ _ c0, (World.cell?_setCell_other _ _ _ _ (by simp)).trans c1, (World.cell?_setCell_other _ _ _ _ (by simp)).trans c2⟩, fun o => by simp [f]⟩
theorem W3.set1 {w : World} {b : Nat} {t : T} (h : W3 w b t) (x : Int) : W3 (w.setCell ⟨b, 1, none⟩ (.int .u64 x)) b (t.1, x, t.2.2) := by
  obtain ⟨⟨c0, c1, c2⟩, f⟩ := h
  exact ⟨⟨(World.cell?_setCell_other _ _ _ _ (by simp)).trans c0, World.cell?_setCell_same _ _ _ c1, (World.cell?_setCell_other _ _ _ _ (by simp)).trans c2⟩, fun o => by simp [f]⟩
theorem W3.set2 {w : World} {b : Nat} {t : T} (h : W3 w b t) (x : Int) : W3 (w.setCell ⟨b, 2, none⟩ (.int .u64 x)) b (t.1, t.2.1, x) := by
  obtain ⟨⟨c0, c1, c2⟩, f⟩ := h
  exact ⟨⟨(World.cell?_setCell_other _ _ _ _ (by simp)).trans c0, (World.cell?_setCell_other _ _ _ _ (by simp)).trans c1, World.cell?_setCell_same _ _ _ c2⟩, fun o => by simp [f]⟩
/-- Nothing but block b has turned, and there may be new ones. -/
structure Gro (b : Nat) (w w' : World) : Prop where
  os : w'.os = w.os
  tape : w'.tape = w.tape
  output : w'.output = w.output
  size : w.heap.size ≤ w'.heap.size
  block : ∀ k, k < w.heap.size → k ≠ b → w'.heap[k]? = w.heap[k]?
theorem Gro.refl (b : Nat) (w : World) : Gro b w w := ⟨rfl, rfl, rfl, Nat.le_refl _, fun _ _ _ => rfl⟩
theorem Gro.trans {b : Nat} {x y z : World} (h : Gro b x y) (g : Gro b y z) : Gro b x z :=
  ⟨g.os.trans h.os, g.tape.trans h.tape, g.output.trans h.output, Nat.le_trans h.size g.size, fun k hk hb => (g.block k (Nat.lt_of_lt_of_le hk h.size) hb).trans (h.block k hk hb)⟩
theorem Gro.only {b : Nat} {w w' : World} (h : Only b w w') : Gro b w w' := ⟨h.os, h.tape, h.output, Nat.le_of_eq h.size.symm, fun k _ hb => h.block k hb⟩
theorem Gro.ofBelow {b : Nat} {w w' : World} (h : Below w.heap.size w w') : Gro b w w' := ⟨h.os, h.tape, h.output, h.size, fun k hk _ => h.block k hk⟩
theorem Gro.set {b c : Nat} {x y : World} (h : Gro b x y) (hc : x.heap.size ≤ c) (o : Nat) (v : Value) : Gro b x (y.setCell ⟨c, o, none⟩ v) :=
  ⟨h.os, h.tape, h.output, by simpa [World.setCell] using h.size, fun k hk hb => (Below.heap_setCell _ _ _ _ (show k ≠ c by omega)).trans (h.block k hk hb)⟩
theorem Gro.below {b : Nat} {a w w' : World} (h : Gro b w w') (g : Below a.heap.size a w) (hb : a.heap.size ≤ b) : Below a.heap.size a w' :=
  g.trans ⟨h.os, h.tape, h.output, h.size, fun k hk => h.block k (Nat.lt_of_lt_of_le hk g.size) (by omega)⟩
theorem Rd.gro {b c : Nat} {w w' : World} {s : ByteArray} {e : Int} (r : Rd w c s e) (h : Gro b w w') (hc : c < w.heap.size) (hne : c ≠ b) : Rd w' c s e :=
  ⟨(World.cell?_of_block (w := w) (h.block c hc hne)).trans r.c0, (World.cell?_of_block (w := w) (h.block c hc hne)).trans r.c1,
   (World.frozen?_of_block (w := w) (h.block c hc hne)).trans r.f0, (World.frozen?_of_block (w := w) (h.block c hc hne)).trans r.f1⟩
theorem Rd.set {w : World} {b c : Nat} {s : ByteArray} {e : Int} (r : Rd w b s e) (hne : b ≠ c) (o : Nat) (v : Value) : Rd (w.setCell ⟨c, o, none⟩ v) b s e := by
  have g : (w.setCell ⟨c, o, none⟩ v).heap[b]? = w.heap[b]? := Below.heap_setCell _ _ _ _ hne
  exact ⟨(World.cell?_of_block (w := w) g).trans r.c0, (World.cell?_of_block (w := w) g).trans r.c1, (World.frozen?_of_block (w := w) g).trans r.f0, (World.frozen?_of_block (w := w) g).trans r.f1⟩

/-- A test that is read, and the reader behind it. -/
def hdR (r : RS) : Int := (r.skip 2).num 1
def r3R (r : RS) : RS := ((r.skip 2).skip 1).skip 1
def fR (r : RS) : Int := fieldV (hdR r / 2)
def readT (r : RS) : T := (fR r, (r3R r).num (szV (fR r)), if hdR r % 2 = 1 then ((r3R r).skip (szV (fR r))).num (szV (fR r)) else grV (fR r))
def restR (r : RS) : RS := if hdR r % 2 = 1 then ((r3R r).skip (szV (fR r))).skip (szV (fR r)) else (r3R r).skip (szV (fR r))

set_option maxHeartbeats 8000000 in
theorem readTest_odd (b : Nat) (r : RS) (w : World) (hs : r.s.size ≤ maxLen) (h : Rd w b r.s r.e) (hb : b < w.heap.size) (hd : Cd w) (hb0 : b ≠ 0) (hh : (hdR r % 2 == 1) = true) :
    Calls Tryd.prog 67 #[.pointer (some ⟨b, 0, none⟩)] w fun e w' => e = .returned (tV (readT r)) ∧ Rd w' b (restR r).s (restR r).e ∧ Gro b w w' := by
  have z1 : r.s.size ≤ maxLen := hs
  have z2 := Nat.le_trans (RS.skip_size r 2) z1
  have z3 := Nat.le_trans (RS.skip_size (r.skip 2) 1) z2
  have z4 : (r3R r).s.size ≤ maxLen := Nat.le_trans (RS.skip_size ((r.skip 2).skip 1) 1) z3
  have z5 := Nat.le_trans (RS.skip_size (r3R r) (szV (fR r))) z4
  have hlt := RS.num_lt (r.skip 2) 1 (by omega)
  have h0 : 0 ≤ hdR r := by simpa [hdR] using hlt.1
  have h1 : hdR r < 256 := by simpa [hdR] using hlt.2
  have HF : Hid (∀ w, Cd w → Calls Tryd.prog 79 #[.int .i64 (hdR r / 2)] w fun e w' => e = .returned (.int .i64 (fR r)) ∧ Below w.heap.size w w') := fun w hd => fieldOf_any _ w hd
  have HB : Hid (∀ w, Calls Tryd.prog 53 #[.int .i64 (fR r)] w fun e w' => e = .returned (.int .i64 (szV (fR r))) ∧ w' = w) := fun w => bytesOf_any _ w
  have HG : Hid (∀ w, Calls Tryd.prog 68 #[.int .i64 (fR r)] w fun e w' => e = .returned (.int .u64 (grV (fR r))) ∧ w' = w) := fun w => greatest_any _ w
  have HT : Hid (readT r = (fR r, (r3R r).num (szV (fR r)), ((r3R r).skip (szV (fR r))).num (szV (fR r)))) := (show _ = _ by
    have : hdR r % 2 = 1 := by simpa using hh
    unfold readT; rw [if_pos this])
  have HRR : Hid (restR r = ((r3R r).skip (szV (fR r))).skip (szV (fR r))) := (show _ = _ by
    have : hdR r % 2 = 1 := by simpa using hh
    unfold restR; rw [if_pos this])
  have g0 : Gro b w (tx w (0, 0, 0)) := Gro.ofBelow (by go_grown)
  have d0 := W3.new w (0, 0, 0)
  have n0 : w.heap.size ≠ b := by omega
  go_enter Tryd.func67, Tryd.ntmps67
  go_wp2_with fail
  refine (numR b r 2 _ z1 (h.below hb (by go_grown))).mono ?_
  rintro x w1 ⟨rfl, r1, o1⟩
  go_wp2_with fail
  refine (numR b (r.skip 2) 1 _ z2 r1).mono ?_
  rintro x w2 ⟨rfl, r2, o2⟩
  go_wp2_with fail
  refine (numR b ((r.skip 2).skip 1) 1 _ z3 r2).mono ?_
  rintro x w3 ⟨rfl, r3, o3⟩
  have g3 := ((g0.trans (Gro.only o1)).trans (Gro.only o2)).trans (Gro.only o3)
  have d3 : W3 w3 w.heap.size (0, 0, 0) := ((d0.block (o1.block _ n0)).block (o2.block _ n0)).block (o3.block _ n0)
  have cd3 : Cd w3 := by
    obtain ⟨ct, cf, hc⟩ := hd
    exact ⟨ct, cf, (g3.block 0 (by omega) (Ne.symm hb0)).trans hc⟩
  have s3 : w3.heap.size = w.heap.size + 1 := by rw [o3.size, o2.size, o1.size]; simp
  have e3 : (⟨((r.skip 2).skip 1).s, ((r.skip 2).skip 1).e⟩ : RS).skip 1 = r3R r := rfl
  rw [show (r.skip 2).num 1 = hdR r from rfl]
  clear o1 o2 o3 r1 r2 g0 d0
  generalize hdR r = hx at *
  go_wp2_with fail
  refine (HF.out _ cd3).mono ?_
  rintro x w4 ⟨rfl, g4⟩
  have gg4 := g3.trans (Gro.ofBelow g4)
  have d4 := d3.block (g4.block _ (by omega))
  have r4 : Rd w4 b (r3R r).s (r3R r).e := Rd.below (s := (r3R r).s) (e := (r3R r).e) r3 (by omega) g4
  have s4 : w.heap.size + 1 ≤ w4.heap.size := by have := g4.size; omega
  clear g3 d3 cd3 g4 r3
  have gg5 := gg4.trans (Gro.ofBelow (b := b) (show Below w4.heap.size w4 (tx w4 (fR r, 0, 0)) by go_grown))
  have d5 : W3 (tx w4 (fR r, 0, 0)) w.heap.size (0, 0, 0) := d4.block (heap_alloc_old w4 _ (by omega))
  have t5 := W3.new w4 (fR r, 0, 0)
  have r5 : Rd (tx w4 (fR r, 0, 0)) b (r3R r).s (r3R r).e := r4.below (by omega) (by go_grown)
  clear gg4 d4 r4
  go_wp2_with fail
  refine (HB.out _).mono ?_
  rintro x w5 ⟨rfl, rfl⟩
  have n4 : w4.heap.size ≠ b := by omega
  have n5 : w4.heap.size ≠ w.heap.size := by omega
  go_wp2_with fail
  refine (numR b (r3R r) (szV (fR r)) _ z4 r5).mono ?_
  rintro x w6 ⟨rfl, r6, o6⟩
  have gg6 := gg5.trans (Gro.only o6)
  have d6 := d5.block (o6.block _ n0)
  have t6 := t5.block (o6.block _ n4)
  clear gg5 d5 t5 r5 o6
  obtain ⟨⟨c0, c1, c2⟩, cf⟩ := t6
  have t6 : W3 w6 w4.heap.size (fR r, 0, 0) := ⟨⟨c0, c1, c2⟩, cf⟩
  go_wp2_with fail
  have t7 := t6.set1 ((r3R r).num (szV (fR r)))
  have gg7 := gg6.set (show w.heap.size ≤ w4.heap.size by omega) 1 (.int .u64 ((r3R r).num (szV (fR r))))
  have d7 := d6.block (Below.heap_setCell w6 ⟨w4.heap.size, 1, none⟩ (.int .u64 ((r3R r).num (szV (fR r)))) w.heap.size (Ne.symm n5))
  have r7 := r6.set (Ne.symm n4) 1 (.int .u64 ((r3R r).num (szV (fR r))))
  clear t6 gg6 d6 r6 c0 c1 c2 cf
  have t7 : W3 (w6.setCell ⟨w4.heap.size, 1, none⟩ (.int .u64 ((r3R r).num (szV (fR r))))) w4.heap.size (fR r, (r3R r).num (szV (fR r)), 0) := t7
  generalize w6.setCell ⟨w4.heap.size, 1, none⟩ (.int .u64 ((r3R r).num (szV (fR r)))) = w7 at *
  generalize (r3R r).num (szV (fR r)) = V at *
  have t7' := t7
  have d7' := d7
  obtain ⟨⟨c0, c1, c2⟩, cf⟩ := t7'
  obtain ⟨⟨e0, e1, e2⟩, ef⟩ := d7'
  refine (HG.out _).mono ?_
  rintro x w8 ⟨rfl, rfl⟩
  go_wp2_with fail
  have t8 : W3 (w8.setCell ⟨w4.heap.size, 2, none⟩ (.int .u64 (grV (fR r)))) w4.heap.size (fR r, V, grV (fR r)) := t7.set2 _
  have gg8 := gg7.set (show w.heap.size ≤ w4.heap.size by omega) 2 (.int .u64 (grV (fR r)))
  have d8 := d7.block (Below.heap_setCell w8 ⟨w4.heap.size, 2, none⟩ (.int .u64 (grV (fR r))) w.heap.size (Ne.symm n5))
  have r8 := r7.set (Ne.symm n4) 2 (.int .u64 (grV (fR r)))
  clear c0 c1 c2 cf e0 e1 e2 ef
  refine (numR b ((r3R r).skip (szV (fR r))) (szV (fR r)) _ z5 r8).mono ?_
  rintro x w9 ⟨rfl, r9, o9⟩
  have gg9 := gg8.trans (Gro.only o9)
  have d9 := d8.block (o9.block _ n0)
  have t9 := t8.block (o9.block _ n4)
  clear gg8 d8 t8 r8 o9 t7 gg7 d7 r7
  generalize ((r3R r).skip (szV (fR r))).num (szV (fR r)) = M at *
  have t9' := t9
  have d9' := d9
  obtain ⟨⟨c0, c1, c2⟩, cf⟩ := t9'
  obtain ⟨⟨e0, e1, e2⟩, ef⟩ := d9'
  go_wp2_with fail
  have d10 := d9.block (Below.heap_setCell w9 ⟨w4.heap.size, 2, none⟩ (.int .u64 M) w.heap.size (Ne.symm n5))
  have d11 : W3 _ w.heap.size (fR r, V, M) := ((d10.set0 (fR r)).set1 V).set2 M
  refine bodyPost_ret (resT (b := w.heap.size) (t := (fR r, V, M)) rfl rfl d11.c) rfl ?_
  refine ⟨by rw [HT.out], ?_, ?_⟩
  · rw [HRR.out]
    exact (((r9.set (Ne.symm n4) _ _).set (Ne.symm n0) _ _).set (Ne.symm n0) _ _).set (Ne.symm n0) _ _
  · exact (((gg9.set (by omega) _ _).set (Nat.le_refl _) _ _).set (Nat.le_refl _) _ _).set (Nat.le_refl _) _ _

set_option maxHeartbeats 8000000 in
theorem readTest_even (b : Nat) (r : RS) (w : World) (hs : r.s.size ≤ maxLen) (h : Rd w b r.s r.e) (hb : b < w.heap.size) (hd : Cd w) (hb0 : b ≠ 0) (hh : (hdR r % 2 == 1) = false) :
    Calls Tryd.prog 67 #[.pointer (some ⟨b, 0, none⟩)] w fun e w' => e = .returned (tV (readT r)) ∧ Rd w' b (restR r).s (restR r).e ∧ Gro b w w' := by
  have z1 : r.s.size ≤ maxLen := hs
  have z2 := Nat.le_trans (RS.skip_size r 2) z1
  have z3 := Nat.le_trans (RS.skip_size (r.skip 2) 1) z2
  have z4 : (r3R r).s.size ≤ maxLen := Nat.le_trans (RS.skip_size ((r.skip 2).skip 1) 1) z3
  have hlt := RS.num_lt (r.skip 2) 1 (by omega)
  have h0 : 0 ≤ hdR r := by simpa [hdR] using hlt.1
  have h1 : hdR r < 256 := by simpa [hdR] using hlt.2
  have HF : Hid (∀ w, Cd w → Calls Tryd.prog 79 #[.int .i64 (hdR r / 2)] w fun e w' => e = .returned (.int .i64 (fR r)) ∧ Below w.heap.size w w') := fun w hd => fieldOf_any _ w hd
  have HB : Hid (∀ w, Calls Tryd.prog 53 #[.int .i64 (fR r)] w fun e w' => e = .returned (.int .i64 (szV (fR r))) ∧ w' = w) := fun w => bytesOf_any _ w
  have HG : Hid (∀ w, Calls Tryd.prog 68 #[.int .i64 (fR r)] w fun e w' => e = .returned (.int .u64 (grV (fR r))) ∧ w' = w) := fun w => greatest_any _ w
  have HT : Hid (readT r = (fR r, (r3R r).num (szV (fR r)), grV (fR r))) := (show _ = _ by
    have : ¬ hdR r % 2 = 1 := by simpa using hh
    unfold readT; rw [if_neg this])
  have HRR : Hid (restR r = (r3R r).skip (szV (fR r))) := (show _ = _ by
    have : ¬ hdR r % 2 = 1 := by simpa using hh
    unfold restR; rw [if_neg this])
  have g0 : Gro b w (tx w (0, 0, 0)) := Gro.ofBelow (by go_grown)
  have d0 := W3.new w (0, 0, 0)
  have n0 : w.heap.size ≠ b := by omega
  go_enter Tryd.func67, Tryd.ntmps67
  go_wp2_with fail
  refine (numR b r 2 _ z1 (h.below hb (by go_grown))).mono ?_
  rintro x w1 ⟨rfl, r1, o1⟩
  go_wp2_with fail
  refine (numR b (r.skip 2) 1 _ z2 r1).mono ?_
  rintro x w2 ⟨rfl, r2, o2⟩
  go_wp2_with fail
  refine (numR b ((r.skip 2).skip 1) 1 _ z3 r2).mono ?_
  rintro x w3 ⟨rfl, r3, o3⟩
  have g3 := ((g0.trans (Gro.only o1)).trans (Gro.only o2)).trans (Gro.only o3)
  have d3 : W3 w3 w.heap.size (0, 0, 0) := ((d0.block (o1.block _ n0)).block (o2.block _ n0)).block (o3.block _ n0)
  have cd3 : Cd w3 := by
    obtain ⟨ct, cf, hc⟩ := hd
    exact ⟨ct, cf, (g3.block 0 (by omega) (Ne.symm hb0)).trans hc⟩
  have s3 : w3.heap.size = w.heap.size + 1 := by rw [o3.size, o2.size, o1.size]; simp
  have e3 : (⟨((r.skip 2).skip 1).s, ((r.skip 2).skip 1).e⟩ : RS).skip 1 = r3R r := rfl
  rw [show (r.skip 2).num 1 = hdR r from rfl]
  clear o1 o2 o3 r1 r2 g0 d0
  generalize hdR r = hx at *
  go_wp2_with fail
  refine (HF.out _ cd3).mono ?_
  rintro x w4 ⟨rfl, g4⟩
  have gg4 := g3.trans (Gro.ofBelow g4)
  have d4 := d3.block (g4.block _ (by omega))
  have r4 : Rd w4 b (r3R r).s (r3R r).e := Rd.below (s := (r3R r).s) (e := (r3R r).e) r3 (by omega) g4
  have s4 : w.heap.size + 1 ≤ w4.heap.size := by have := g4.size; omega
  clear g3 d3 cd3 g4 r3
  have gg5 := gg4.trans (Gro.ofBelow (b := b) (show Below w4.heap.size w4 (tx w4 (fR r, 0, 0)) by go_grown))
  have d5 : W3 (tx w4 (fR r, 0, 0)) w.heap.size (0, 0, 0) := d4.block (heap_alloc_old w4 _ (by omega))
  have t5 := W3.new w4 (fR r, 0, 0)
  have r5 : Rd (tx w4 (fR r, 0, 0)) b (r3R r).s (r3R r).e := r4.below (by omega) (by go_grown)
  clear gg4 d4 r4
  go_wp2_with fail
  refine (HB.out _).mono ?_
  rintro x w5 ⟨rfl, rfl⟩
  have n4 : w4.heap.size ≠ b := by omega
  have n5 : w4.heap.size ≠ w.heap.size := by omega
  go_wp2_with fail
  refine (numR b (r3R r) (szV (fR r)) _ z4 r5).mono ?_
  rintro x w6 ⟨rfl, r6, o6⟩
  have gg6 := gg5.trans (Gro.only o6)
  have d6 := d5.block (o6.block _ n0)
  have t6 := t5.block (o6.block _ n4)
  clear gg5 d5 t5 r5 o6
  obtain ⟨⟨c0, c1, c2⟩, cf⟩ := t6
  have t6 : W3 w6 w4.heap.size (fR r, 0, 0) := ⟨⟨c0, c1, c2⟩, cf⟩
  go_wp2_with fail
  have t7 := t6.set1 ((r3R r).num (szV (fR r)))
  have gg7 := gg6.set (show w.heap.size ≤ w4.heap.size by omega) 1 (.int .u64 ((r3R r).num (szV (fR r))))
  have d7 := d6.block (Below.heap_setCell w6 ⟨w4.heap.size, 1, none⟩ (.int .u64 ((r3R r).num (szV (fR r)))) w.heap.size (Ne.symm n5))
  have r7 := r6.set (Ne.symm n4) 1 (.int .u64 ((r3R r).num (szV (fR r))))
  clear t6 gg6 d6 r6 c0 c1 c2 cf
  have t7 : W3 (w6.setCell ⟨w4.heap.size, 1, none⟩ (.int .u64 ((r3R r).num (szV (fR r))))) w4.heap.size (fR r, (r3R r).num (szV (fR r)), 0) := t7
  generalize w6.setCell ⟨w4.heap.size, 1, none⟩ (.int .u64 ((r3R r).num (szV (fR r)))) = w7 at *
  generalize (r3R r).num (szV (fR r)) = V at *
  have t7' := t7
  have d7' := d7
  obtain ⟨⟨c0, c1, c2⟩, cf⟩ := t7'
  obtain ⟨⟨e0, e1, e2⟩, ef⟩ := d7'
  refine (HG.out _).mono ?_
  rintro x w8 ⟨rfl, rfl⟩
  go_wp2_with fail
  have d10 := d7.block (Below.heap_setCell w8 ⟨w4.heap.size, 2, none⟩ (.int .u64 (grV (fR r))) w.heap.size (Ne.symm n5))
  have d11 : W3 _ w.heap.size (fR r, V, grV (fR r)) := ((d10.set0 (fR r)).set1 V).set2 (grV (fR r))
  refine bodyPost_ret (resT (b := w.heap.size) (t := (fR r, V, grV (fR r))) rfl rfl d11.c) rfl ?_
  refine ⟨by rw [HT.out], ?_, ?_⟩
  · rw [HRR.out]
    exact (((r7.set (Ne.symm n4) _ _).set (Ne.symm n0) _ _).set (Ne.symm n0) _ _).set (Ne.symm n0) _ _
  · exact (((gg7.set (by omega) _ _).set (Nat.le_refl _) _ _).set (Nat.le_refl _) _ _).set (Nat.le_refl _) _ _

theorem readTest_any (b : Nat) (r : RS) (w : World) (hs : r.s.size ≤ maxLen) (h : Rd w b r.s r.e) (hb : b < w.heap.size) (hd : Cd w) (hb0 : b ≠ 0) :
    Calls Tryd.prog 67 #[.pointer (some ⟨b, 0, none⟩)] w fun e w' => e = .returned (tV (readT r)) ∧ Rd w' b (restR r).s (restR r).e ∧ Gro b w w' := by
  cases hh : (hdR r % 2 == 1) with
  | true => exact readTest_odd b r w hs h hb hd hb0 hh
  | false => exact readTest_even b r w hs h hb hd hb0 hh
end Go.Proofs.YtjmnnjhaiecglaaDoor
