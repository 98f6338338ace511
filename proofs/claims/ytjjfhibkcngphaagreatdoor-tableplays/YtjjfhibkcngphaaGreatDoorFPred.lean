/-
  Which entries another one means: isTwin, means, and the functions that Add, clashes and Delete hand on, as contracts.
-/
import Derived.Test.YtjjfhibkcngphaaGreatDoorFCopy
namespace Go.Proofs.YtjjfhibkcngphaaGreatDoor
open Go.ChangeShapes Go.WideShapes Go.ChangeAt Go.RowKit
set_option linter.unusedVariables false
set_option linter.unusedSimpArgs false

/-- Two of one Priority and the same Tests; two of one Priority that meet; whether one means the other. -/
def twinB (x y : Fp) : Bool := (x.pri == y.pri) && Mt.sameB x.lt y.lt
def clashB (x y : Fp) : Bool := (x.pri == y.pri) && Mt.meetsB x.lt y.lt
def meansB (x y : Fp) (s : Bool) : Bool := if s then twinB x y else Mt.coversB x.lt y.lt
/-- Two entries in boxes. -/
theorem two_boxes (w : World) (x y : Fe) : ∃ W, (fx w x).alloc (.cells (feC y) 40) = W ∧ W.heap.size = w.heap.size + 2 ∧ Below w.heap.size w W ∧ Be W w.heap.size 0 x ∧ Be W (w.heap.size + 1) 0 y := by
  refine ⟨_, rfl, by simp, by go_grown, (Be.new w x).below (B := w.heap.size + 1) (by omega) (by go_grown), ?_⟩
  have := Be.new (fx w x) y
  simpa using this
set_option maxHeartbeats 2000000 in
theorem isTwin_any (x y : Fe) (w : World) (hx : FW w x) (hy : FW w y) :
    Calls Tryz.prog 35 #[feV x, feV y] w fun e w' => e = .returned (.bool (twinB x.p y.p)) ∧ Below w.heap.size w w' := by
  have HS : Hid (∀ w1, Below w.heap.size w w1 → Calls Tryz.prog 53 #[.slice x.ta x.p.lt.length x.tc, .slice y.ta y.p.lt.length y.tc] w1 fun e w' => e = .returned (.bool (Mt.sameB x.p.lt y.p.lt)) ∧ Below w1.heap.size w1 w') := (show ∀ w1, _ from fun w1 g => Mt.same_any _ _ _ _ _ _ w1 (hx.t.below g) (by have := hx.nt; omega) (hy.t.below g) (by have := hy.nt; omega))
  clear hx hy
  obtain ⟨W, hW, zW, gW, bx, bY⟩ := two_boxes w x y
  have HG : Hid (Below w.heap.size w W) := gW
  obtain ⟨_, c1, c2, _⟩ := bx.cs
  obtain ⟨_, d1, d2, _⟩ := bY.cs
  clear bx bY gW
  unfold twinB
  cases hp : (x.p.pri == y.p.pri) with
  | false =>
    go_enter Tryz.func35, Tryz.ntmps35
    go_wp2_with fail
    go_ret
    exact ⟨rfl, HG.out⟩
  | true =>
    generalize Mt.sameB x.p.lt y.p.lt = B at *
    go_enter Tryz.func35, Tryz.ntmps35
    go_wp2_with fail
    refine (HS.out W HG.out).mono ?_
    rintro e w3 ⟨rfl, g3⟩
    go_wp2_with fail
    go_ret
    exact ⟨rfl, btr HG.out g3 (Nat.le_refl _)⟩
set_option maxHeartbeats 2000000 in
theorem means_any (x y : Fe) (s : Bool) (w : World) (hx : FW w x) (hy : FW w y) :
    Calls Tryz.prog 42 #[feV x, feV y, .bool s] w fun e w' => e = .returned (.bool (meansB x.p y.p s)) ∧ Below w.heap.size w w' := by
  have HS : Hid (∀ w1, Below w.heap.size w w1 → Calls Tryz.prog 63 #[.slice x.ta x.p.lt.length x.tc, .slice y.ta y.p.lt.length y.tc] w1 fun e w' => e = .returned (.bool (Mt.coversB x.p.lt y.p.lt)) ∧ Below w1.heap.size w1 w') := (show ∀ w1, _ from fun w1 g => Mt.covers_any _ _ _ _ _ _ w1 (hx.t.below g) (by have := hx.nt; omega) (hy.t.below g) (by have := hy.nt; omega))
  have HT : Hid (∀ w1, Below w.heap.size w w1 → Calls Tryz.prog 35 #[feV x, feV y] w1 fun e w' => e = .returned (.bool (twinB x.p y.p)) ∧ Below w1.heap.size w1 w') := (show ∀ w1, _ from fun w1 g => isTwin_any x y w1 (hx.below g) (hy.below g))
  clear hx hy
  obtain ⟨W, hW, zW, gW, bx, bY⟩ := two_boxes w x y
  have HG : Hid (Below w.heap.size w W) := gW
  have HX : Hid (Be W w.heap.size 0 x) := bx
  have HY : Hid (Be W (w.heap.size + 1) 0 y) := bY
  obtain ⟨_, _, c2, _⟩ := bx.cs
  obtain ⟨_, _, d2, _⟩ := bY.cs
  clear bx bY gW
  unfold meansB
  cases s with
  | true =>
    rw [if_pos rfl]
    generalize twinB x.p y.p = B at *
    go_enter Tryz.func42, Tryz.ntmps42
    go_wp2_with (first | (refine load_E rfl (.tmp 3) rfl w.heap.size 0 x rfl HX.out ?_) | (refine load_E rfl (.tmp 4) rfl (w.heap.size + 1) 0 y rfl HY.out ?_))
    refine (HT.out W HG.out).mono ?_
    rintro e w3 ⟨rfl, g3⟩
    go_wp2_with fail
    go_ret
    exact ⟨rfl, btr HG.out g3 (Nat.le_refl _)⟩
  | false =>
    rw [if_neg (by decide)]
    generalize Mt.coversB x.p.lt y.p.lt = B at *
    go_enter Tryz.func42, Tryz.ntmps42
    go_wp2_with fail
    refine (HS.out W HG.out).mono ?_
    rintro e w3 ⟨rfl, g3⟩
    go_wp2_with fail
    go_ret
    exact ⟨rfl, btr HG.out g3 (Nat.le_refl _)⟩
set_option maxHeartbeats 2000000 in
theorem addF_any (x y : Fe) (b : Nat) (w : World) (hb : b < w.heap.size) (hB : Be w b 0 x) (hx : FW w x) (hy : FW w y) :
    Calls Tryz.prog 34 #[feV y, .pointer (some ⟨b, 0, none⟩)] w fun e w' => e = .returned (.bool (twinB x.p y.p)) ∧ Below w.heap.size w w' := by
  have HT : Hid (Calls Tryz.prog 35 #[feV x, feV y] (fx w y) fun e w' => e = .returned (.bool (twinB x.p y.p)) ∧ Below (fx w y).heap.size (fx w y) w') := isTwin_any x y _ (hx.alloc _) (hy.alloc _)
  have HX : Hid (Be (fx w y) b 0 x) := hB.below hb (by go_grown)
  have HY : Hid (Be (fx w y) w.heap.size 0 y) := Be.new w y
  clear hx hy hB
  generalize twinB x.p y.p = B at *
  go_enter Tryz.func34, Tryz.ntmps34
  go_wp2_with (first | (refine load_E rfl (.tmp 1) rfl b 0 x rfl HX.out ?_) | (refine load_E rfl (.tmp 2) rfl w.heap.size 0 y rfl HY.out ?_))
  refine HT.out.mono ?_
  rintro e w3 ⟨rfl, g3⟩
  go_wp2_with fail
  go_ret
  exact ⟨rfl, btr (show Below w.heap.size w (fx w y) by go_grown) g3 (Nat.le_refl _)⟩
set_option maxHeartbeats 2000000 in
theorem clashF_any (x y : Fe) (b : Nat) (w : World) (hb : b < w.heap.size) (hB : Be w b 0 x) (hx : FW w x) (hy : FW w y) :
    Calls Tryz.prog 55 #[feV y, .pointer (some ⟨b, 0, none⟩)] w fun e w' => e = .returned (.bool (clashB x.p y.p)) ∧ Below w.heap.size w w' := by
  have HT : Hid (Calls Tryz.prog 56 #[.slice x.ta x.p.lt.length x.tc, .slice y.ta y.p.lt.length y.tc] (fx w y) fun e w' => e = .returned (.bool (Mt.meetsB x.p.lt y.p.lt)) ∧ Below (fx w y).heap.size (fx w y) w') := Mt.meets_any _ _ _ _ _ _ _ (hx.alloc _).t (by have := hx.nt; omega) (hy.alloc _).t (by have := hy.nt; omega)
  obtain ⟨_, c1, c2, _⟩ := (hB.below (w' := fx w y) hb (by go_grown)).cs
  clear hx hy hB
  unfold clashB
  cases hp : (x.p.pri == y.p.pri) with
  | false =>
    go_enter Tryz.func55, Tryz.ntmps55
    go_wp2_with fail
    go_ret
    exact ⟨rfl, by go_grown⟩
  | true =>
    generalize Mt.meetsB x.p.lt y.p.lt = B at *
    go_enter Tryz.func55, Tryz.ntmps55
    go_wp2_with fail
    refine HT.out.mono ?_
    rintro e w3 ⟨rfl, g3⟩
    go_wp2_with fail
    go_ret
    exact ⟨rfl, btr (show Below w.heap.size w (fx w y) by go_grown) g3 (Nat.le_refl _)⟩
set_option maxHeartbeats 2000000 in
theorem delF_any (x y : Fe) (s : Bool) (b c : Nat) (w : World) (hb : b < w.heap.size) (hB : Be w b 0 x) (hc : c < w.heap.size) (hs : w.cell? ⟨c, 0, none⟩ = some (.bool s)) (hx : FW w x) (hy : FW w y) :
    Calls Tryz.prog 45 #[feV y, .pointer (some ⟨b, 0, none⟩), .pointer (some ⟨c, 0, none⟩)] w fun e w' => e = .returned (.bool (meansB x.p y.p s)) ∧ Below w.heap.size w w' := by
  have HT : Hid (Calls Tryz.prog 42 #[feV x, feV y, .bool s] (fx w y) fun e w' => e = .returned (.bool (meansB x.p y.p s)) ∧ Below (fx w y).heap.size (fx w y) w') := means_any x y s _ (hx.alloc _) (hy.alloc _)
  have HX : Hid (Be (fx w y) b 0 x) := hB.below hb (by go_grown)
  have HY : Hid (Be (fx w y) w.heap.size 0 y) := Be.new w y
  clear hx hy hB
  generalize meansB x.p y.p s = B at *
  go_enter Tryz.func45, Tryz.ntmps45
  go_wp2_with (first | (refine load_E rfl (.tmp 1) rfl b 0 x rfl HX.out ?_) | (refine load_E rfl (.tmp 3) rfl w.heap.size 0 y rfl HY.out ?_))
  refine HT.out.mono ?_
  rintro e w3 ⟨rfl, g3⟩
  go_wp2_with fail
  go_ret
  exact ⟨rfl, btr (show Below w.heap.size w (fx w y) by go_grown) g3 (Nat.le_refl _)⟩
end Go.Proofs.YtjjfhibkcngphaaGreatDoor
