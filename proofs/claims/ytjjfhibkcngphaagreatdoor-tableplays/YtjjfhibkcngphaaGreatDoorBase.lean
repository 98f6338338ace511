/-
  Actions as the program has them: values, cells, slices; a region that draws its order, whose callees make memory and leave what was there: walked once.
-/
import Derived.Test.YtjjfhibkcngphaaGreatDoorRows
import Derived.Test.YtjjfhibkcngphaaGreatDoorAct
import Derived.Test.YtjjfhibkcngphaaGreatDoorNum
import Derived.WalkKit
import Derived.ProofKit
import Derived.OpenShut
import Derived.Handy
import Derived.BigQuiet
import Derived.Deep.RegionWith
import Derived.Laws.ResultCell
import Derived.Laws.BytesArg
import Derived.Laws.StructEq
namespace Go.Proofs.YtjjfhibkcngphaaGreatDoor
open Go.ChangeShapes Go.WideShapes Go.ChangeAt Go.RowKit

/-- An action's value, its cells, and that they lie at a place. -/
abbrev tV (t : A) : Value := .agg #[.int .i64 t.1, .int .i64 t.2.1, .int .u64 t.2.2]
abbrev tC (t : A) : Array Value := #[.int .i64 t.1, .int .i64 t.2.1, .int .u64 t.2.2]
abbrev tx (w : World) (t : A) : World := w.alloc (.cells (tC t) 79)
abbrev C3 (w : World) (b o : Nat) (t : A) : Prop := w.cell? ⟨b, o, none⟩ = some (.int .i64 t.1) ∧ w.cell? ⟨b, o + 1, none⟩ = some (.int .i64 t.2.1) ∧ w.cell? ⟨b, o + 2, none⟩ = some (.int .u64 t.2.2)
theorem C3.new (w : World) (t : A) : C3 (tx w t) w.heap.size 0 t := by unfold C3 tx; simp
theorem C3.block {w w' : World} {b o : Nat} {t : A} (h : C3 w b o t) (g : w'.heap[b]? = w.heap[b]?) : C3 w' b o t := by
  obtain ⟨h0, h1, h2⟩ := h
  have e : ∀ o, w'.cell? ⟨b, o, none⟩ = w.cell? ⟨b, o, none⟩ := fun o => World.cell?_of_block (w := w) g
  exact ⟨(e _).trans h0, (e _).trans h1, (e _).trans h2⟩
theorem C3.below {w w' : World} {b o B : Nat} {t : A} (h : C3 w b o t) (hb : b < B) (g : Below B w w') : C3 w' b o t := h.block (g.block b hb)
/-- Whether two actions are one. -/
def eqB (t u : A) : Bool := decide (t = u)
theorem eqB_true {t u : A} : eqB t u = true ↔ t = u := by unfold eqB; simp
theorem eqB_false {t u : A} : eqB t u = false ↔ t ≠ u := by unfold eqB; simp
theorem eqT (t u : A) (w : World) : (binOp .eql 79 (tV t) (tV u)).run Tryz.prog w = .ok (.bool (eqB t u)) w := by
  have u3 := Tryz.underlying3
  have a3 := Tryz.isAgg3
  have z3 := Tryz.sizeOf3
  have u4 := Tryz.underlying23
  have a4 := Tryz.isAgg23
  have z4 := Tryz.sizeOf23
  have hS : Tryz.prog.underlying 79 = some (.struct (Tryz.prog.fieldsOf 79)) := by kernel_rfl
  have hp : Tryz.prog.stoodInHeld 79 = false := by kernel_rfl
  rw [run_eql_struct, show (10000 : Nat) = 9999 + 1 from rfl, run_equalIn_agg w 9999 79 _ _ hS hp]
  simp only [Program.fieldsOf, Tryz.underlying79]
  go_simp
  unfold eqB
  obtain ⟨a, b, c⟩ := t
  obtain ⟨x, y, z⟩ := u
  by_cases h1 : a = x <;> by_cases h2 : b = y <;> by_cases h3 : c = z <;> simp [h1, h2, h3]
theorem guT (op : BinOp) (x y : Operand) (t u : A) (w : World) : (eqGuard op 79 x y (tV t) (tV u)).run Tryz.prog w = .ok () w := run_eqGuard_agg w op 79 x y _ _ (by kernel_rfl)
theorem neT (t u : A) (w : World) : (binOp .neq 79 (tV t) (tV u)).run Tryz.prog w = .ok (.bool (!eqB t u)) w := by
  have h := eqT t u w
  rw [run_eql_struct] at h
  rw [run_neq_struct]
  generalize (Op.equalIn 10000 79 (tV t) (tV u)).run Tryz.prog w = r at h ⊢
  cases r with
  | ok b w' => simp [Result.andThen] at h ⊢; exact ⟨by rw [h.1], h.2⟩
  | halt x w' => simp [Result.andThen] at h
/-- A slice's address, and the actions that lie there. -/
def Ts (w : World) (a : Option Addr) (l : List A) : Prop :=
  l = [] ∨ ∃ g o, a = some ⟨g, o, none⟩ ∧ g < w.heap.size ∧ ∀ i (h : i < l.length), C3 w g (o + i * 3) l[i]
theorem Ts.below {w w' : World} {a : Option Addr} {l : List A} (h : Ts w a l) (g : Below w.heap.size w w') : Ts w' a l := by
  rcases h with h | ⟨b, o, ha, hb, hc⟩
  · exact .inl h
  · exact .inr ⟨b, o, ha, Nat.lt_of_lt_of_le hb g.size, fun i hi => (hc i hi).below hb g⟩
theorem Ts.take {w : World} {a : Option Addr} {l : List A} (h : Ts w a l) (k : Nat) : Ts w a (l.take k) := by
  rcases h with rfl | ⟨b, o, ha, hb, hc⟩
  · exact .inl (by simp)
  · exact .inr ⟨b, o, ha, hb, fun i hi => by
      have hi' : i < l.length := by rw [List.length_take] at hi; omega
      rw [List.getElem_take]
      exact hc i hi'⟩
theorem Ts.at {w : World} {a : Option Addr} {l : List A} (h : Ts w a l) {k : Nat} (hk : k < l.length) : ∃ g o, a = some ⟨g, o, none⟩ ∧ g < w.heap.size ∧ ∀ i (h : i < l.length), C3 w g (o + i * 3) l[i] := by
  rcases h with rfl | h
  · cases hk
  · exact h
theorem Ts.alloc {w : World} {a : Option Addr} {l : List A} (h : Ts w a l) (o : Obj) : Ts (w.alloc o) a l := h.below (by go_grown)
theorem take_snoc_get (l : List A) (k : Nat) (h : k < l.length) : l.take (k + 1) = l.take k ++ [l[k]] := List.take_succ_eq_append_getElem h

/-- A world that was grown out of another one. -/
structure GrS (W : World) where
  w : World
  h : Below W.heap.size W w
/-- Such a world, or that one itself. -/
abbrev GrT (W : World) : Type := Option (GrS W)
def GrT.w {W : World} : GrT W → World
  | none => W
  | some g => g.w
theorem GrT.h {W : World} : (n : GrT W) → Below W.heap.size W n.w
  | none => Below.refl _ _
  | some g => g.h
theorem gr_elim {W w' : World} (h : ∃ n : GrT W, w' = n.w) : Below W.heap.size W w' := by
  obtain ⟨n, rfl⟩ := h
  exact n.h
theorem wp_region_grow {P : Program} {id : Nat} {Q : Exit → Act → World → Prop} {a : Act} {w : World} {l : List Oper} (hm : P.follows .mixedOrders = true) (hB : Region.lexB .any l.toArray = true)
    (h : wpQuiet P l.toArray (fun w' => ∃ n : GrT w, w' = n.w) (fun a' => ∀ w', (∃ n : GrT w, w' = n.w) → Q .normal a' w') l a) : (Code.region id l.toArray true).wp P Q a w :=
  wp_region_quiet (C := fun w' => ∃ n : GrT w, w' = n.w) hm hB ⟨some ⟨_, (Below.refl _ w).drew⟩, rfl⟩ (by simpa using h)
theorem btr {a b c : World} {k : Nat} (h : Below k a b) (g : Below b.heap.size b c) (hk : k ≤ a.heap.size) : Below k a c := h.trans (g.mono (Nat.le_trans hk h.size))
/-- A callee that leaves what was there. -/
theorem quiet_gr {P : Program} {f : FuncId} {args : Array Value} {W : World} {n : GrT W} {v : Value}
    (h : Calls P f args n.w fun e w' => e = .returned v ∧ Below n.w.heap.size n.w w') : Calls P f args n.w fun e w'' => e = .returned v ∧ ∃ m : GrT W, w'' = m.w :=
  h.mono fun _ w' ⟨he, hm⟩ => ⟨he, some ⟨w', btr n.h hm (Nat.le_refl _)⟩, rfl⟩
theorem quiet_gs {P : Program} {f : FuncId} {args : Array Value} {W : World} {n : GrT W} {v : Value}
    (h : Calls P f args n.w fun e w' => e = .returned v ∧ w' = n.w) : Calls P f args n.w fun e w'' => e = .returned v ∧ ∃ m : GrT W, w'' = m.w :=
  h.mono fun _ _ ⟨he, hm⟩ => ⟨he, n, hm⟩
theorem bdr {B : Nat} {a w : World} (h : Below B a w) (n : Nat) : Below B a (w.drewN n) := h.trans ⟨rfl, rfl, rfl, Nat.le_refl _, fun _ _ => rfl⟩
theorem C3.gr {W : World} {b o : Nat} {t : A} (h : C3 W b o t) (hb : b < W.heap.size) (n : GrT W) : C3 n.w b o t := h.below hb n.h
theorem Ts.gr {W : World} {a : Option Addr} {l : List A} (h : Ts W a l) (n : GrT W) : Ts n.w a l := h.below n.h
/-- What is answered in cells. -/
theorem loadT (w : World) (b : Nat) (t : A) (h : C3 w b 0 t) : (loadVar 79 ⟨b, 0, none⟩).run Tryz.prog w = .ok (tV t) w := by
  obtain ⟨h0, h1, h2⟩ := h
  simp [go_sem, *]
theorem resT {fn : Func} {k : Tmp} (h : fn.results = #[.cell k 79]) {tmps : Array Value} {w : World} {b : Nat} {t : A} (ht : tmps.getD k undef = .pointer (some ⟨b, 0, none⟩)) (hs : C3 w b 0 t) :
    (results fn tmps).run Tryz.prog w = .ok (tV t) w := by
  have ht' : tmps[k]?.getD undef = .pointer (some ⟨b, 0, none⟩) := by simpa using ht
  simp [results, h, ht', asAddr, loadT w b t hs]
theorem ret_bool {a b : Bool} (h : a = b) : Ending.returned (.bool a) = Ending.returned (.bool b) := by rw [h]
theorem ret_int {k : IntKind} {a b : Int} (h : a = b) : Ending.returned (.int k a) = Ending.returned (.int k b) := by rw [h]
theorem btrans {a b c : World} (h : Below a.heap.size a b) (k : Below b.heap.size b c) : Below a.heap.size a c := h.trans (k.mono h.size)
end Go.Proofs.YtjjfhibkcngphaaGreatDoor
