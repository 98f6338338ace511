/-
  What the statements use again and again.
-/
import Derived.Test.YtmobmpghpdaddaaOpen
namespace Go.Proofs.Ytmobmpghpdaddaa
open Go.ChangeShapes Go.WideShapes Go.ChangeAt Go.RowKit
set_option linter.unusedVariables false
set_option linter.unusedSimpArgs false

theorem FiH.at {U wr : World} {b n : Nat} {l : List K} (h : FiH U b n l wr) {i : Nat} (hi : i < l.length) : ∃ x c, wr.cell? ⟨b, i, none⟩ = some (.slice x (toT l[i]).length c) ∧ (toT l[i]).length ≤ c ∧ Ts wr x (toT l[i]) := by
  obtain ⟨hs, h1, h2, h3⟩ := h.ex
  have h4 := h2 i (by omega)
  obtain ⟨⟨g1, g2, g3⟩, _⟩ := h3.2 i (by omega) hi
  refine ⟨hs[i].a, hs[i].c, ?_, by omega, g3.ts⟩
  rw [h4]
  show some (Value.slice _ hs[i].n _) = _
  rw [g1]
theorem toT_few (k : K) : (toT k).length ≤ 9223372036854775807 := Nat.le_trans (toTn_len k 10) (by decide)
theorem inB_toT {k : K} (h : Vk k) (r : Rw) : inB (toT k) r = hasB k r := by
  unfold inB
  rw [toT_whole h, cubF_toT h, Bool.true_and]
theorem in_k {k : K} (hk : Vk k) {x : Option Addr} {c : Nat} {b : Option Addr} {vs : List B64} {vc : Nat} {u : World} (h : Ts u x (toT k)) (hv : Vs u b vs) :
    Calls Try.prog 23 #[.slice x (toT k).length c, .slice b vs.length vc] u fun e w' => e = .returned (.bool (hasB k (valR vs))) ∧ Below u.heap.size u w' := by
  have := in_any x (toT k) c b vs vc u h hv (toT_few k)
  rw [inB_toT hk] at this
  exact this
/-- A predicate that is handed in, in a box. -/
structure PxI (w : World) (q : Nat) (a : Option Addr) (l : List Nd) (cap : Nat) (u : World) : Prop where
  box : u.cell? ⟨q, 0, none⟩ = some (.slice a l.length cap)
  ns : Ns u a l
  lt : q < u.heap.size
  bel : Below w.heap.size w u
theorem PxI.grow {w u u' : World} {q : Nat} {a : Option Addr} {l : List Nd} {cap : Nat} (h : PxI w q a l cap u) (g : Below u.heap.size u u') : PxI w q a l cap u' :=
  ⟨(g.cell (p := ⟨q, 0, none⟩) h.lt).trans h.box, h.ns.below g, Nat.lt_of_lt_of_le h.lt g.size, btr h.bel g (Nat.le_refl _)⟩
theorem PxI.new (w : World) (a : Option Addr) (l : List Nd) (cap : Nat) (h : Ns w a l) : PxI w w.heap.size a l cap (w.alloc (.cells #[.slice a l.length cap] 24)) :=
  ⟨by simp, h.below (by go_grown), by simp, by go_grown⟩
theorem CbR.cases {w w' : World} {l : List Nd} {e : Ending} (h : CbR w l e w') :
    (rightB l = false ∧ e = .returned (.tuple #[.slice none 0 0, .int .i64 1]) ∧ Below w.heap.size w w') ∨ (rightB l = true ∧ listO l = none ∧ e = .returned (.tuple #[.slice none 0 0, .int .i64 44]) ∧ Below w.heap.size w w') ∨ (rightB l = true ∧ ∃ r b, listO l = some r ∧ e = .returned (.tuple #[.slice (some ⟨b, 0, none⟩) r.length r.length, .int .i64 0]) ∧ FiH w b r.length r w') := h
end Go.Proofs.Ytmobmpghpdaddaa
