/-
  The function that Order hands to the sort: it holds two places' numbers against each other.
-/
import Derived.Test.YtfkkciepbmijaabSl
namespace Go.Proofs.Ytfkkciepbmijaab
open Go.ChangeShapes Go.WideShapes Go.ChangeAt Go.RowKit
set_option linter.unusedVariables false

/-- Where a place stands in the order. -/
def kp (L : List Nat) (x : Int) : Int := ky (L.getD x.toNat 0)
structure AW (L : List Nat) (x : Int) : Prop where
  lo : 0 ≤ x
  hi : x < L.length
abbrev AWs (L : List Nat) (l : List Int) : Prop := ∀ x ∈ l, AW L x
def cm0 (s t : Bool) : Int := if s then -1 else if t then 1 else 0
def cmV (L : List Nat) (x y : Int) : Int := cm0 (lessB (L.getD x.toNat 0) (L.getD y.toNat 0)) (lessB (L.getD y.toNat 0) (L.getD x.toNat 0))
theorem cmV_lt (L : List Nat) (x y : Int) : cmV L x y < 0 ↔ kp L x < kp L y := by
  unfold cmV cm0 kp lessB
  simp only [decide_eq_true_eq]
  (repeat' split) <;> omega
/-- The row whose places are put in order, behind the variable that the function holds; all of it lies below b. -/
structure Ev (L : List Nat) (q : Nat) (b : Nat) (w : World) : Prop where
  qb : q < b
  bw : b ≤ w.heap.size
  wf : W64 L
  row : ∃ g o c, w.cell? ⟨q, 0, none⟩ = some (.slice (some ⟨g, o, none⟩) L.length c) ∧ g < b ∧ ∀ i (h : i < L.length), w.cell? ⟨g, o + i, none⟩ = some (.float .f64 L[i])
theorem Ev.below {L : List Nat} {q b : Nat} {w w' : World} (h : Ev L q b w) (g : Below b w w') : Ev L q b w' := by
  obtain ⟨r, o, c, h1, h2, h3⟩ := h.row
  exact ⟨h.qb, Nat.le_trans h.bw g.size, h.wf, r, o, c, (g.cell (p := ⟨q, 0, none⟩) h.qb).trans h1, h2, fun i hi => (g.cell (p := ⟨r, _, none⟩) h2).trans (h3 i hi)⟩
set_option maxHeartbeats 2000000 in
theorem order1_any (L : List Nat) (q b : Nat) (x y : Int) (w : World) (hE : Ev L q b w) (hx : AW L x) (hy : AW L y) :
    Calls Try.prog 17 #[.int .i64 x, .int .i64 y, .pointer (some ⟨q, 0, none⟩)] w fun e w' => e = .returned (.int .i64 (cmV L x y)) ∧ Below w.heap.size w w' := by
  obtain ⟨X, rfl⟩ : ∃ X : Nat, x = (X : Int) := ⟨x.toNat, by have := hx.lo; omega⟩
  obtain ⟨Y, rfl⟩ : ∃ Y : Nat, y = (Y : Int) := ⟨y.toNat, by have := hy.lo; omega⟩
  have lx : X < L.length := by have := hx.hi; omega
  have ly : Y < L.length := by have := hy.hi; omega
  obtain ⟨g, o, c, h1, h2, h3⟩ := hE.row
  have hb := hE.bw
  have hq := hE.qb
  have d1 := h3 X lx
  have d2 := h3 Y ly
  have HV : cmV L X Y = cm0 (lessB L[X] L[Y]) (lessB L[Y] L[X]) := by
    unfold cmV
    simp [List.getD_eq_getElem?_getD, lx, ly]
  have HA : Hid (L[X] < 2 ^ 64) := hE.wf.at lx
  have HB : Hid (L[Y] < 2 ^ 64) := hE.wf.at ly
  rw [HV]
  clear HV h3 hE hx hy
  generalize L[X] = A at *
  generalize L[Y] = B at *
  generalize L.length = n at *
  have H1 : Hid (∀ w, Calls Try.prog 7 #[.float .f64 A, .float .f64 B] w fun e w' => e = .returned (.bool (lessB A B)) ∧ w' = w) := (show ∀ w, _ from fun w => less_any A B HA.out HB.out w)
  have H2 : Hid (∀ w, Calls Try.prog 7 #[.float .f64 B, .float .f64 A] w fun e w' => e = .returned (.bool (lessB B A)) ∧ w' = w) := (show ∀ w, _ from fun w => less_any B A HB.out HA.out w)
  have HC : Hid (∀ w', Below w.heap.size w w' → w'.cell? ⟨q, 0, none⟩ = some (.slice (some ⟨g, o, none⟩) n c) ∧ w'.cell? ⟨g, o + X, none⟩ = some (.float .f64 A) ∧ w'.cell? ⟨g, o + Y, none⟩ = some (.float .f64 B)) := (show ∀ w', _ from fun w' k => ⟨(k.cell (p := ⟨q, 0, none⟩) (show q < w.heap.size by omega)).trans h1, (k.cell (p := ⟨g, _, none⟩) (show g < w.heap.size by omega)).trans d1, (k.cell (p := ⟨g, _, none⟩) (show g < w.heap.size by omega)).trans d2⟩)
  clear h1 d1 d2 h2 hb hq
  generalize lessB A B = s at *
  generalize lessB B A = t at *
  have c1 : ∀ n : GrT w, _ := fun n => (HC.out n.w n.h).1
  have c2 : ∀ n : GrT w, _ := fun n => (HC.out n.w n.h).2.1
  have c3 : ∀ n : GrT w, _ := fun n => (HC.out n.w n.h).2.2
  have zx : (X : Int) < (n : Int) := by omega
  have zy : (Y : Int) < (n : Int) := by omega
  cases s with
  | true =>
    go_enter Try.func17, Try.ntmps17
    go_wp2_with fail
    refine wp_region_grow (by kernel_rfl) (by kernel_rfl) ?_
    repeat (go_big_quiet_step ((go_at_call 7; exact quiet_gs (H1.out _))))
    refine wpQuiet_nil ?_
    rintro w1 hw'
    have g1 := gr_elim hw'
    clear hw'
    go_wp2_with fail
    go_ret
    exact ⟨rfl, g1⟩
  | false =>
    go_enter Try.func17, Try.ntmps17
    go_wp2_with fail
    refine wp_region_grow (by kernel_rfl) (by kernel_rfl) ?_
    repeat (go_big_quiet_step ((go_at_call 7; exact quiet_gs (H1.out _))))
    refine wpQuiet_nil ?_
    rintro w1 hw'
    have HG1 : Hid (Below w.heap.size w w1) := gr_elim hw'
    clear hw' c1 c2 c3
    have c1 : ∀ n : GrT w1, _ := fun n => (HC.out n.w (btr HG1.out n.h (Nat.le_refl _))).1
    have c2 : ∀ n : GrT w1, _ := fun n => (HC.out n.w (btr HG1.out n.h (Nat.le_refl _))).2.1
    have c3 : ∀ n : GrT w1, _ := fun n => (HC.out n.w (btr HG1.out n.h (Nat.le_refl _))).2.2
    cases t with
    | true =>
      go_wp2_with fail
      refine wp_region_grow (by kernel_rfl) (by kernel_rfl) ?_
      repeat (go_big_quiet_step ((go_at_call 7; exact quiet_gs (H2.out _))))
      refine wpQuiet_nil ?_
      rintro w2 hw'
      have g2 := gr_elim hw'
      clear hw'
      go_wp2_with fail
      go_ret
      exact ⟨rfl, btr HG1.out g2 (Nat.le_refl _)⟩
    | false =>
      go_wp2_with fail
      refine wp_region_grow (by kernel_rfl) (by kernel_rfl) ?_
      repeat (go_big_quiet_step ((go_at_call 7; exact quiet_gs (H2.out _))))
      refine wpQuiet_nil ?_
      rintro w2 hw'
      have g2 := gr_elim hw'
      clear hw'
      go_wp2_with fail
      go_ret
      exact ⟨rfl, btr HG1.out g2 (Nat.le_refl _)⟩
end Go.Proofs.Ytfkkciepbmijaab
