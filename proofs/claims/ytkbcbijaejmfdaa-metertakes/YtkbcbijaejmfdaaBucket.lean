/-
  What the bucket's calls do: contracts over a world in which the bucket's three cells lie; what the examples' function 'awake' answers: true.
-/
import Derived.Test.YtkbcbijaejmfdaaRows
import Derived.WalkKit
import Derived.ProofKit
import Derived.OpenShut
import Derived.Handy
import Derived.Deep.QuietTactic
import Derived.BigQuiet
namespace Go.Proofs.Ytkbcbijaejmfdaa
open Go.ChangeShapes Go.WideShapes Go.ChangeAt Go.RowKit

theorem btrans {a b c : World} (h : Below a.heap.size a b) (k : Below b.heap.size b c) : Below a.heap.size a c := h.trans (k.mono h.size)

/-- At block b lies a bucket: its rate, its burst, and what it has. -/
structure Bk (w : World) (b : Nat) (r m l : Int) : Prop where
  c0 : w.cell? ⟨b, 0, none⟩ = some (.int .i64 r)
  c1 : w.cell? ⟨b, 1, none⟩ = some (.int .i64 m)
  c2 : w.cell? ⟨b, 2, none⟩ = some (.int .i64 l)
  f2 : w.frozen? ⟨b, 2, none⟩ = false

/-- Nothing but block b has turned. -/
structure Only (b : Nat) (w w' : World) : Prop where
  os : w'.os = w.os
  tape : w'.tape = w.tape
  output : w'.output = w.output
  size : w'.heap.size = w.heap.size
  block : ∀ k, k ≠ b → w'.heap[k]? = w.heap[k]?

theorem Only.refl (b : Nat) (w : World) : Only b w w := ⟨rfl, rfl, rfl, rfl, fun _ _ => rfl⟩
theorem Only.drew {b : Nat} {w w' : World} (h : Only b w w') : Only b w w'.drew := ⟨h.os, h.tape, h.output, h.size, h.block⟩
theorem Only.trans {b : Nat} {w w' w'' : World} (h : Only b w w') (k : Only b w' w'') : Only b w w'' :=
  ⟨k.os.trans h.os, k.tape.trans h.tape, k.output.trans h.output, k.size.trans h.size, fun i hi => (k.block i hi).trans (h.block i hi)⟩
theorem Only.setCell {b : Nat} {w w' : World} (h : Only b w w') (o : Nat) (v : Value) : Only b w (w'.setCell ⟨b, o, none⟩ v) :=
  ⟨h.os, h.tape, h.output, by simp [World.setCell, h.size], fun k hk => (Below.heap_setCell _ _ _ _ hk).trans (h.block k hk)⟩
theorem Only.below {b : Nat} {w w' a : World} (h : Only b w w') (hb : a.heap.size ≤ b) (g : Below a.heap.size a w) : Below a.heap.size a w' :=
  g.trans ⟨h.os, h.tape, h.output, by rw [h.size]; exact Nat.le_refl _, fun k hk => h.block k (by omega)⟩
theorem Bk.only {b c : Nat} {w w' : World} {r m l : Int} (k : Bk w c r m l) (h : Only b w w') (hne : c ≠ b) : Bk w' c r m l :=
  ⟨(World.cell?_of_block (w := w) (h.block c hne)).trans k.c0, (World.cell?_of_block (w := w) (h.block c hne)).trans k.c1,
   (World.cell?_of_block (w := w) (h.block c hne)).trans k.c2, (World.frozen?_of_block (w := w) (h.block c hne)).trans k.f2⟩
theorem Bk.drew {w : World} {b : Nat} {r m l : Int} (k : Bk w b r m l) : Bk w.drew b r m l := ⟨k.c0, k.c1, k.c2, k.f2⟩
theorem Bk.below {B b : Nat} {w w' : World} {r m l : Int} (k : Bk w b r m l) (h : Below B w w') (hb : b < B) : Bk w' b r m l :=
  ⟨(h.cell (p := ⟨b, _, none⟩) hb).trans k.c0, (h.cell (p := ⟨b, _, none⟩) hb).trans k.c1, (h.cell (p := ⟨b, _, none⟩) hb).trans k.c2, (h.frozen (p := ⟨b, _, none⟩) hb).trans k.f2⟩
theorem Bk.new (w : World) (r m l : Int) (T : TypeId) : Bk (w.alloc (.cells #[.int .i64 r, .int .i64 m, .int .i64 l] T)) w.heap.size r m l :=
  ⟨by simp, by simp, by simp, by simp⟩
theorem Bk.set {w : World} {b : Nat} {r m l : Int} (k : Bk w b r m l) (n : Int) : Bk (w.setCell ⟨b, 2, none⟩ (.int .i64 n)) b r m n := by
  obtain ⟨c0, c1, c2, f2⟩ := k
  exact ⟨(World.cell?_setCell_other _ _ _ _ (by simp)).trans c0, (World.cell?_setCell_other _ _ _ _ (by simp)).trans c1, World.cell?_setCell_same _ _ _ c2, by simp [f2]⟩

/-- The numbers of a bucket. -/
structure Fit (r m l : Int) : Prop where
  r0 : 0 ≤ r
  r1 : r ≤ 4294967295
  l0 : 0 ≤ l
  lm : l ≤ m
  m1 : m ≤ 4294967295

/-- What a bucket has behind a Tick. -/
def tickL (r m l t : Int) : Int := if t < 0 then l else if m ≤ l + r * t then m else l + r * t
/-- What a bucket has behind a Take. -/
def takeL (l n : Int) : Int := if 0 ≤ n ∧ n ≤ l then l - n else l
def takB (l n : Int) : Bool := decide (0 ≤ n) && decide (n ≤ l)
/-- The error of a number below 0. -/
def argE (n : Int) : Int := if n < 0 then 1 else 0
def filB (r m l t : Int) : Bool := decide (0 < r) && decide ((m - l) / r < t)

theorem Fit.tick {r m l : Int} (f : Fit r m l) (t : Int) : Fit r m (tickL r m l t) := by
  obtain ⟨a, b, c, d, e⟩ := f
  unfold tickL
  split
  · exact ⟨a, b, c, d, e⟩
  · rename_i h
    have := Int.mul_nonneg a (by omega : 0 ≤ t)
    split
    · exact ⟨a, b, by omega, by omega, e⟩
    · exact ⟨a, b, by omega, by omega, e⟩
theorem Fit.take {r m l : Int} (f : Fit r m l) (n : Int) : Fit r m (takeL l n) := by
  obtain ⟨a, b, c, d, e⟩ := f
  unfold takeL
  split <;> exact ⟨a, b, by omega, by omega, e⟩

theorem fil_yes {r m l t : Int} (f : Fit r m l) (ht : 0 ≤ t) (h : filB r m l t = true) : tickL r m l t = m := by
  obtain ⟨a, b, c, d, e⟩ := f
  unfold filB at h
  simp only [Bool.and_eq_true, decide_eq_true_eq] at h
  obtain ⟨h0, h1⟩ := h
  have h2 := (Int.ediv_lt_iff_lt_mul h0).mp h1
  have h3 : t * r = r * t := Int.mul_comm t r
  unfold tickL
  rw [if_neg (by omega), if_pos (by omega)]
theorem fil_no {r m l t : Int} (f : Fit r m l) (ht : 0 ≤ t) (h : filB r m l t = false) : 0 ≤ r * t ∧ r * t ≤ m - l ∧ tickL r m l t = l + r * t := by
  obtain ⟨a, b, c, d, e⟩ := f
  have h0 := Int.mul_nonneg a ht
  have h1 : r * t ≤ m - l := by
    unfold filB at h
    by_cases hr : 0 < r
    · simp only [hr, decide_true, Bool.true_and, decide_eq_false_iff_not] at h
      have h2 : ¬ (m - l < t * r) := fun x => h ((Int.ediv_lt_iff_lt_mul hr).mpr x)
      have h3 : t * r = r * t := Int.mul_comm t r
      omega
    · have hz : r = 0 := by omega
      subst hz
      simp; omega
  refine ⟨h0, h1, ?_⟩
  unfold tickL
  rw [if_neg (by omega)]
  split
  · omega
  · rfl

def mayB (n : Int) : Bool := decide (0 ≤ n) && decide (n ≤ 4294967295)
set_option maxHeartbeats 400000 in
theorem mayBe_any (n : Int) (w : World) :
    Calls Try.prog 17 #[.int .i64 n] w fun x w' => x = .returned (.bool (mayB n)) ∧ w' = w := by
  unfold mayB
  by_cases h1 : 0 ≤ n <;> by_cases h2 : n ≤ 4294967295 <;>
  · simp only [h1, h2, decide_true, decide_false, Bool.and_true, Bool.and_false]
    go_enter Try.func17, Try.ntmps17
    go_wp2
    go_ret
    exact ⟨rfl, rfl⟩

set_option maxHeartbeats 400000 in
theorem new_no (r m : Int) (w : World) (h : (mayB r && mayB m) = false) :
    Calls Try.prog 9 #[.int .i64 r, .int .i64 m] w fun x w' => x = .returned (.tuple #[.pointer none, .int .i64 1]) ∧ w' = w := by
  cases h1 : mayB r
  · clear h
    go_enter Try.func9, Try.ntmps9
    go_wp2_with (go_at_call 17; refine (mayBe_any _ _).mono ?_; rintro x w' ⟨rfl, rfl⟩)
    go_ret2
    exact ⟨rfl, rfl⟩
  · have h2 : mayB m = false := by simpa [h1] using h
    clear h
    go_enter Try.func9, Try.ntmps9
    go_wp2_with (go_at_call 17; refine (mayBe_any _ _).mono ?_; rintro x w' ⟨rfl, rfl⟩)
    go_ret2
    exact ⟨rfl, rfl⟩
set_option maxHeartbeats 400000 in
theorem new_yes (r m : Int) (w : World) (h1 : mayB r = true) (h2 : mayB m = true) :
    Calls Try.prog 9 #[.int .i64 r, .int .i64 m] w fun x w' => x = .returned (.tuple #[.pointer (some ⟨w.heap.size, 0, none⟩), .int .i64 0]) ∧ w' = w.alloc (.cells #[.int .i64 r, .int .i64 m, .int .i64 m] 46) := by
  go_enter Try.func9, Try.ntmps9
  go_wp2_with (go_at_call 17; refine (mayBe_any _ _).mono ?_; rintro x w' ⟨rfl, rfl⟩)
  go_ret2
  exact ⟨rfl, rfl⟩
theorem mayB_fit {r m : Int} (h1 : mayB r = true) (h2 : mayB m = true) : Fit r m m := by
  unfold mayB at h1 h2
  simp only [Bool.and_eq_true, decide_eq_true_eq] at h1 h2
  exact ⟨h1.1, h1.2, h2.1, Int.le_refl _, h2.2⟩

theorem Only.drewN {b : Nat} {w w' : World} (h : Only b w w') (n : Nat) : Only b w (w'.drewN n) := ⟨h.os, h.tape, h.output, h.size, h.block⟩
theorem Bk.drewN {w : World} {b : Nat} {r m l : Int} (k : Bk w b r m l) (n : Nat) : Bk (w.drewN n) b r m l := ⟨k.c0, k.c1, k.c2, k.f2⟩

set_option maxHeartbeats 1000000 in
theorem fills_any (b : Nat) (r m l t : Int) (w : World) (k : Bk w b r m l) (f : Fit r m l) :
    Calls Try.prog 18 #[.pointer (some ⟨b, 0, none⟩), .int .i64 t] w fun x w' => x = .returned (.bool (filB r m l t)) ∧ ∃ n, w' = w.drewN n := by
  obtain ⟨c0, c1, c2, f2⟩ := k
  obtain ⟨a, b', c, d, e⟩ := f
  unfold filB
  by_cases hr : 0 < r
  · have hd : decide (0 < r) = true := by simp [hr]
    rw [hd, Bool.true_and]
    go_enter Try.func18, Try.ntmps18
    go_wp2
    go_quiet (fail)
    go_wp2
    go_ret
    exact ⟨rfl, _, rfl⟩
  · have hd : decide (0 < r) = false := by simp [hr]
    rw [hd, Bool.false_and]
    go_enter Try.func18, Try.ntmps18
    go_wp2
    go_quiet (fail)
    go_wp2
    go_ret
    exact ⟨rfl, _, rfl⟩

set_option maxHeartbeats 1000000 in
theorem tick_any (b : Nat) (r m l t : Int) (w : World) (k : Bk w b r m l) (f : Fit r m l) :
    Calls Try.prog 12 #[.pointer (some ⟨b, 0, none⟩), .int .i64 t] w fun x w' => x = .returned (.int .i64 (argE t)) ∧ Bk w' b r m (tickL r m l t) ∧ Only b w w' := by
  by_cases ht : t < 0
  · have e1 : argE t = 1 := if_pos ht
    have e2 : tickL r m l t = l := if_pos ht
    rw [e1, e2]
    clear e1 e2
    go_enter Try.func12, Try.ntmps12
    go_wp2_with fail
    go_ret
    exact ⟨rfl, k, Only.refl _ _⟩
  · have e1 : argE t = 0 := if_neg ht
    rw [e1]
    clear e1
    cases hf : filB r m l t
    · obtain ⟨p0, p1, p2⟩ := fil_no f (by omega) hf
      rw [p2]
      have F := f
      have K := k
      obtain ⟨f1, f2, f3, f4, f5⟩ := f
      obtain ⟨c0, c1, c2, fz⟩ := k
      clear p2
      go_enter Try.func12, Try.ntmps12
      go_wp2_with (go_at_call 18; refine (fills_any b r m l t _ K F).mono ?_; rintro x w1 ⟨rfl, n, rfl⟩)
      go_region
      all_goals go_wp2
      all_goals go_ret
      all_goals exact ⟨rfl, (K.drewN _).set _, ((Only.refl _ _).drewN _).setCell _ _⟩
    · have p2 := fil_yes f (by omega) hf
      rw [p2]
      obtain ⟨c0, c1, c2, fz⟩ := id k
      clear p2
      go_enter Try.func12, Try.ntmps12
      go_wp2_with (go_at_call 18; refine (fills_any b r m l t _ k f).mono ?_; rintro x w1 ⟨rfl, n, rfl⟩)
      go_ret
      exact ⟨rfl, (k.drewN n).set _, ((Only.refl _ _).drewN n).setCell _ _⟩

set_option maxHeartbeats 1000000 in
theorem take_any (b : Nat) (r m l n : Int) (w : World) (k : Bk w b r m l) (f : Fit r m l) :
    Calls Try.prog 14 #[.pointer (some ⟨b, 0, none⟩), .int .i64 n] w fun x w' => x = .returned (.tuple #[.bool (takB l n), .int .i64 (argE n)]) ∧ Bk w' b r m (takeL l n) ∧ Only b w w' := by
  have K := k
  obtain ⟨c0, c1, c2, fz⟩ := k
  obtain ⟨f1, f2, f3, f4, f5⟩ := f
  by_cases hn : n < 0
  · have e1 : argE n = 1 := if_pos hn
    have e2 : takeL l n = l := if_neg (by omega)
    have e3 : takB l n = false := by unfold takB; simp; omega
    rw [e1, e2, e3]
    clear e1 e2 e3
    go_enter Try.func14, Try.ntmps14
    go_wp2
    go_ret2
    exact ⟨rfl, K, Only.refl _ _⟩
  · have e1 : argE n = 0 := if_neg hn
    rw [e1]
    clear e1
    by_cases hl : n ≤ l
    · have e2 : takeL l n = l - n := if_pos ⟨by omega, hl⟩
      have e3 : takB l n = true := by unfold takB; simp; omega
      rw [e2, e3]
      clear e2 e3
      go_enter Try.func14, Try.ntmps14
      go_wp2
      go_ret2
      exact ⟨rfl, K.set _, (Only.refl _ _).setCell _ _⟩
    · have e2 : takeL l n = l := if_neg (by omega)
      have e3 : takB l n = false := by unfold takB; simp; omega
      rw [e2, e3]
      clear e2 e3
      go_enter Try.func14, Try.ntmps14
      go_wp2
      go_ret2
      exact ⟨rfl, K, Only.refl _ _⟩

set_option maxHeartbeats 400000 in
theorem left_any (b : Nat) (r m l : Int) (w : World) (k : Bk w b r m l) :
    Calls Try.prog 16 #[.pointer (some ⟨b, 0, none⟩)] w fun x w' => x = .returned (.int .i64 l) ∧ w' = w := by
  obtain ⟨c0, c1, c2, fz⟩ := k
  go_enter Try.func16, Try.ntmps16
  go_wp2
  go_ret
  exact ⟨rfl, rfl⟩

set_option maxHeartbeats 400000 in
theorem tick_nil (t : Int) (w : World) : Calls Try.prog 12 #[.pointer none, .int .i64 t] w fun x w' => x = .returned (.int .i64 2) ∧ w' = w := by
  go_enter Try.func12, Try.ntmps12
  go_wp2
  go_ret
  exact ⟨rfl, rfl⟩
set_option maxHeartbeats 400000 in
theorem take_nil (n : Int) (w : World) : Calls Try.prog 14 #[.pointer none, .int .i64 n] w fun x w' => x = .returned (.tuple #[.bool false, .int .i64 2]) ∧ w' = w := by
  go_enter Try.func14, Try.ntmps14
  go_wp2
  go_ret2
  exact ⟨rfl, rfl⟩
set_option maxHeartbeats 400000 in
theorem left_nil (w : World) : Calls Try.prog 16 #[.pointer none] w fun x w' => x = .returned (.int .i64 0) ∧ w' = w := by
  go_enter Try.func16, Try.ntmps16
  go_wp2
  go_ret
  exact ⟨rfl, rfl⟩

set_option maxHeartbeats 1000000 in
theorem awake_any (w : World) : Calls Try.prog 11 #[] w fun x w' => x = .returned (.bool true) ∧ Below w.heap.size w w' := by
  have f0 : Fit 2 5 5 := ⟨by omega, by omega, by omega, by omega, by omega⟩
  have f1 : Fit 2 5 1 := ⟨by omega, by omega, by omega, by omega, by omega⟩
  have f3 : Fit 2 5 3 := ⟨by omega, by omega, by omega, by omega, by omega⟩
  have k0 := Bk.new w 2 5 5 46
  have b0 : Below w.heap.size w (w.alloc (.cells #[.int .i64 2, .int .i64 5, .int .i64 5] 46)) := (Below.refl _ _).alloc (Nat.le_refl _) _
  go_enter Try.func11, Try.ntmps11
  go_wp2_with fail
  refine (new_yes 2 5 _ (by decide) (by decide)).mono ?_
  rintro x w1 ⟨rfl, e1⟩
  rw [← e1] at k0 b0
  clear e1
  go_wp2_with fail
  refine (take_any w.heap.size 2 5 5 4 _ k0 f0).mono ?_
  rintro x w2 ⟨rfl, k2, o2⟩
  have b2 := o2.below (Nat.le_refl _) b0
  clear k0 o2 b0 f0
  go_wp2_with fail
  refine (take_any w.heap.size 2 5 1 2 _ k2 f1).mono ?_
  rintro x w3 ⟨rfl, k3, o3⟩
  have b3 := o3.below (Nat.le_refl _) b2
  clear k2 o3 b2
  go_wp2_with fail
  refine (tick_any w.heap.size 2 5 1 1 _ k3 f1).mono ?_
  rintro x w4 ⟨rfl, k4, o4⟩
  have b4 := o4.below (Nat.le_refl _) b3
  clear k3 o4 b3
  go_wp2_with fail
  refine (left_any w.heap.size 2 5 3 _ k4).mono ?_
  rintro x w5 ⟨rfl, rfl⟩
  go_wp2_with fail
  refine (tick_any w.heap.size 2 5 3 9 _ k4 f3).mono ?_
  rintro x w6 ⟨rfl, k6, o6⟩
  have b6 := o6.below (Nat.le_refl _) b4
  clear k4 o6 b4
  have t1 : takB 5 4 = true := by decide
  have t2 : takB 1 2 = false := by decide
  go_wp2_with (go_at_call 16; refine (left_any w.heap.size 2 5 5 _ k6).mono ?_; rintro x w7 ⟨rfl, rfl⟩)
  go_ret
  exact ⟨rfl, b6⟩
end Go.Proofs.Ytkbcbijaejmfdaa
