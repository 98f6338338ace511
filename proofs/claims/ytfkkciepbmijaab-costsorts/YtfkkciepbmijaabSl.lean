/-
  Rows of numbers in memory; regions that draw their order and whose callees leave what was there.
-/
import Derived.Test.YtfkkciepbmijaabRefAdd
namespace Go.Proofs.Ytfkkciepbmijaab
open Go.ChangeShapes Go.WideShapes Go.ChangeAt Go.RowKit
set_option linter.unusedVariables false

theorem btr' {k : Nat} {a b c : World} (h : Below k a b) (g : Below k b c) : Below k a c := h.trans g
theorem btr {a b c : World} {k : Nat} (h : Below k a b) (g : Below b.heap.size b c) (hk : k ≤ a.heap.size) : Below k a c := h.trans (g.mono (Nat.le_trans hk h.size))
theorem bdr {B : Nat} {a w : World} (h : Below B a w) (k : Nat) : Below B a (w.drewN k) := ⟨h.os, h.tape, h.output, h.size, h.block⟩
theorem addP (g o j : Nat) : (⟨g, o, none⟩ : Addr).add j = ⟨g, o + j, none⟩ := by unfold Addr.add; split <;> simp_all
/-- A slice's address, and the values that lie there. -/
def Sl {α : Type} (k : α → Value) (w : World) (a : Option Addr) (l : List α) : Prop :=
  l = [] ∨ ∃ g o, a = some ⟨g, o, none⟩ ∧ g < w.heap.size ∧ ∀ i (h : i < l.length), w.cell? ⟨g, o + i, none⟩ = some (k l[i])
theorem Sl.below {α : Type} {k : α → Value} {w w' : World} {a : Option Addr} {l : List α} (h : Sl k w a l) (g : Below w.heap.size w w') : Sl k w' a l := by
  rcases h with h | ⟨b, o, ha, hb, hc⟩
  · exact .inl h
  · exact .inr ⟨b, o, ha, Nat.lt_of_lt_of_le hb g.size, fun i hi => (g.cell (p := ⟨b, _, none⟩) hb).trans (hc i hi)⟩
theorem Sl.at {α : Type} {k : α → Value} {w : World} {a : Option Addr} {l : List α} (h : Sl k w a l) {j : Nat} (hj : j < l.length) : ∃ g o, a = some ⟨g, o, none⟩ ∧ g < w.heap.size ∧ ∀ i (h : i < l.length), w.cell? ⟨g, o + i, none⟩ = some (k l[i]) := by
  rcases h with rfl | h
  · cases hj
  · exact h
abbrev Fs (w : World) (a : Option Addr) (l : List Nat) : Prop := Sl (Value.float .f64) w a l
abbrev Us (w : World) (a : Option Addr) (l : List Nat) : Prop := Sl (fun n : Nat => Value.int .u64 (n : Int)) w a l
abbrev Is (w : World) (a : Option Addr) (l : List Int) : Prop := Sl (Value.int .i64) w a l
/-- All words are of 64 bits. -/
abbrev W64 (l : List Nat) : Prop := ∀ x ∈ l, x < 2 ^ 64
theorem W64.at {l : List Nat} (h : W64 l) {i : Nat} (hi : i < l.length) : l[i] < 2 ^ 64 := h _ (List.getElem_mem hi)

/-- A world that was grown out of another one. -/
structure GrS (W : World) where
  w : World
  h : Below W.heap.size W w
/-- Such a world, or that one itself. -/
abbrev GrT (W : World) : Type := Option (GrS W)
def GrT.w {W : World} : GrT W → World
  | none => W
  | some g => g.w
theorem GrT.h {W : World} : (n : GrT W) → Below W.heap.size W n.w
  | none => Below.refl _ _
  | some g => g.h
theorem gr_elim {W w' : World} (h : ∃ n : GrT W, w' = n.w) : Below W.heap.size W w' := by
  obtain ⟨n, rfl⟩ := h
  exact n.h
theorem wp_region_grow {P : Program} {id : Nat} {Q : Exit → Act → World → Prop} {a : Act} {w : World} {l : List Oper} (hm : P.follows .mixedOrders = true) (hB : Region.lexB .any l.toArray = true)
    (h : wpQuiet P l.toArray (fun w' => ∃ n : GrT w, w' = n.w) (fun a' => ∀ w', (∃ n : GrT w, w' = n.w) → Q .normal a' w') l a) : (Code.region id l.toArray true).wp P Q a w :=
  wp_region_quiet (C := fun w' => ∃ n : GrT w, w' = n.w) hm hB ⟨some ⟨_, (Below.refl _ w).drew⟩, rfl⟩ (by simpa using h)
/-- A callee that leaves what was there. -/
theorem quiet_gr {P : Program} {f : FuncId} {args : Array Value} {W : World} {n : GrT W} {v : Value}
    (h : Calls P f args n.w fun e w' => e = .returned v ∧ Below n.w.heap.size n.w w') : Calls P f args n.w fun e w'' => e = .returned v ∧ ∃ m : GrT W, w'' = m.w :=
  h.mono fun _ w' ⟨he, hm⟩ => ⟨he, some ⟨w', btr n.h hm (Nat.le_refl _)⟩, rfl⟩
theorem quiet_gs {P : Program} {f : FuncId} {args : Array Value} {W : World} {n : GrT W} {v : Value}
    (h : Calls P f args n.w fun e w' => e = .returned v ∧ w' = n.w) : Calls P f args n.w fun e w'' => e = .returned v ∧ ∃ m : GrT W, w'' = m.w :=
  h.mono fun _ _ ⟨he, hm⟩ => ⟨he, n, hm⟩
theorem Sl.gr {α : Type} {k : α → Value} {W : World} {a : Option Addr} {l : List α} (h : Sl k W a l) (n : GrT W) : Sl k n.w a l := h.below n.h
theorem cell_gr {W : World} {b o : Nat} {v : Value} (h : W.cell? ⟨b, o, none⟩ = some v) (hb : b < W.heap.size) (n : GrT W) : n.w.cell? ⟨b, o, none⟩ = some v := (n.h.cell (p := ⟨b, o, none⟩) hb).trans h
end Go.Proofs.Ytfkkciepbmijaab
