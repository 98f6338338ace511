/-
  The calls of a law as cells, and two buckets that go in step.
-/
import Derived.Test.YtkbcbijaejmfdaaBucket
namespace Go.Proofs.Ytkbcbijaejmfdaa
open Go.ChangeShapes Go.WideShapes Go.ChangeAt Go.RowKit

theorem belN {B : Nat} {a w : World} (h : Below B a w) (n : Nat) : Below B a (w.drewN n) := h.trans ⟨rfl, rfl, rfl, Nat.le_refl _, fun _ _ => rfl⟩

/-- What the walk is told of the calls: none, or each one's two cells. -/
def Asks (w : World) (a : Option Addr) (len : Nat) (P : Nat → Bool) (N : Nat → Int) : Prop :=
  len = 0 ∨ ∃ g o, a = some ⟨g, o, none⟩ ∧ g < w.heap.size ∧ ∀ i, i < len → w.cell? ⟨g, o + i * 2, none⟩ = some (.bool (P i)) ∧ w.cell? ⟨g, o + i * 2 + 1, none⟩ = some (.int .i64 (N i))

/-- Both buckets, in step. -/
structure Two (w wr : World) (r m l : Int) : Prop where
  a : Bk wr w.heap.size r m l
  b : Bk wr (w.heap.size + 1) r m l
  f : Fit r m l
  bel : Below w.heap.size w wr

theorem two_new (w : World) (r m : Int) (f : Fit r m m) (S T : TypeId) :
    Two w ((w.alloc (.cells #[.int .i64 r, .int .i64 m, .int .i64 m] S)).alloc (.cells #[.int .i64 r, .int .i64 m, .int .i64 m] T)) r m m := by
  have h := Bk.new w r m m S
  have h2 := Bk.new (w.alloc (.cells #[.int .i64 r, .int .i64 m, .int .i64 m] S)) r m m T
  refine ⟨h.below (B := w.heap.size + 1) ((Below.refl _ _).alloc (by simp) _) (Nat.lt_succ_self _), by simpa using h2, f, ?_⟩
  exact ((Below.refl _ _).alloc (Nat.le_refl _) _).alloc (by simp) _
end Go.Proofs.Ytkbcbijaejmfdaa
