/-
  A packet as the program has it; a region that draws its order, whose callees make memory and leave what was there: walked once.
-/
import Derived.Test.YtmlonfchbkmbcabDoorGSum
import Derived.BigQuiet
import Derived.Deep.RegionWith
namespace Go.Proofs.YtmlonfchbkmbcabDoor.Fr
open Go.ChangeShapes Go.WideShapes Go.ChangeAt Go.RowKit

structure Pk where
  to : Int
  fr : Int
  vl : Int
  ty : Int
  src : Int
  dst : Int
  life : Int
  pro : Int
  sp : Int
  dp : Int
  data : ByteArray

/-- The packet's value, its cells, and that they lie in block b. -/
abbrev pkV (p : Pk) : Value := .agg #[.int .u64 p.to, .int .u64 p.fr, .int .i64 p.vl, .int .i64 p.ty, .int .u32 p.src, .int .u32 p.dst, .int .i64 p.life, .int .i64 p.pro, .int .i64 p.sp, .int .i64 p.dp, .string p.data]
abbrev pkC (p : Pk) : Array Value := #[.int .u64 p.to, .int .u64 p.fr, .int .i64 p.vl, .int .i64 p.ty, .int .u32 p.src, .int .u32 p.dst, .int .i64 p.life, .int .i64 p.pro, .int .i64 p.sp, .int .i64 p.dp, .string p.data]
abbrev bx (w : World) (p : Pk) : World := w.alloc (.cells (pkC p) 25)
abbrev Bx (w : World) (b : Nat) (p : Pk) : Prop :=
  w.cell? ⟨b, 0, none⟩ = some (.int .u64 p.to) ∧ w.cell? ⟨b, 1, none⟩ = some (.int .u64 p.fr) ∧ w.cell? ⟨b, 2, none⟩ = some (.int .i64 p.vl) ∧ w.cell? ⟨b, 3, none⟩ = some (.int .i64 p.ty) ∧
  w.cell? ⟨b, 4, none⟩ = some (.int .u32 p.src) ∧ w.cell? ⟨b, 5, none⟩ = some (.int .u32 p.dst) ∧ w.cell? ⟨b, 6, none⟩ = some (.int .i64 p.life) ∧ w.cell? ⟨b, 7, none⟩ = some (.int .i64 p.pro) ∧
  w.cell? ⟨b, 8, none⟩ = some (.int .i64 p.sp) ∧ w.cell? ⟨b, 9, none⟩ = some (.int .i64 p.dp) ∧ w.cell? ⟨b, 10, none⟩ = some (.string p.data)
theorem Bx.new (w : World) (p : Pk) : Bx (bx w p) w.heap.size p := by unfold Bx bx; simp
theorem Bx.below {w w' : World} {b B : Nat} {p : Pk} (h : Bx w b p) (hb : b < B) (g : Below B w w') : Bx w' b p := by
  obtain ⟨h0, h1, h2, h3, h4, h5, h6, h7, h8, h9, h10⟩ := h
  exact ⟨(g.cell hb).trans h0, (g.cell hb).trans h1, (g.cell hb).trans h2, (g.cell hb).trans h3, (g.cell hb).trans h4, (g.cell hb).trans h5, (g.cell hb).trans h6, (g.cell hb).trans h7, (g.cell hb).trans h8, (g.cell hb).trans h9, (g.cell hb).trans h10⟩

/-- A world that was grown out of another one. -/
structure GrS (W : World) where
  w : World
  h : Below W.heap.size W w
/-- Such a world, or that one itself. -/
abbrev GrT (W : World) : Type := Option (GrS W)
def GrT.w {W : World} : GrT W → World
  | none => W
  | some g => g.w
theorem GrT.h {W : World} : (n : GrT W) → Below W.heap.size W n.w
  | none => Below.refl _ _
  | some g => g.h
theorem gr_elim {W w' : World} (h : ∃ n : GrT W, w' = n.w) : Below W.heap.size W w' := by
  obtain ⟨n, rfl⟩ := h
  exact n.h

theorem wp_region_grow {P : Program} {id : Nat} {Q : Exit → Act → World → Prop} {a : Act} {w : World} {l : List Oper} (hm : P.follows .mixedOrders = true) (hB : Region.lexB .any l.toArray = true)
    (h : wpQuiet P l.toArray (fun w' => ∃ n : GrT w, w' = n.w) (fun a' => ∀ w', (∃ n : GrT w, w' = n.w) → Q .normal a' w') l a) : (Code.region id l.toArray true).wp P Q a w :=
  wp_region_quiet (C := fun w' => ∃ n : GrT w, w' = n.w) hm hB ⟨some ⟨_, (Below.refl _ w).drew⟩, rfl⟩ (by simpa using h)

theorem btr {a b c : World} {k : Nat} (h : Below k a b) (g : Below b.heap.size b c) (hk : k ≤ a.heap.size) : Below k a c := h.trans (g.mono (Nat.le_trans hk h.size))

/-- A callee that leaves what was there. -/
theorem quiet_gr {P : Program} {f : FuncId} {args : Array Value} {W : World} {n : GrT W} {v : Value}
    (h : Calls P f args n.w fun e w' => e = .returned v ∧ Below n.w.heap.size n.w w') : Calls P f args n.w fun e w'' => e = .returned v ∧ ∃ m : GrT W, w'' = m.w :=
  h.mono fun _ w' ⟨he, hm⟩ => ⟨he, some ⟨w', btr n.h hm (Nat.le_refl _)⟩, rfl⟩
theorem quiet_gs {P : Program} {f : FuncId} {args : Array Value} {W : World} {n : GrT W} {v : Value}
    (h : Calls P f args n.w fun e w' => e = .returned v ∧ w' = n.w) : Calls P f args n.w fun e w'' => e = .returned v ∧ ∃ m : GrT W, w'' = m.w :=
  h.mono fun _ _ ⟨he, hm⟩ => ⟨he, n, hm⟩

/-- A number's bytes. -/
def pb (n : Int) (k : Nat) : ByteArray := strOfNums (pieces n k)
theorem pb_size (n : Int) (k : Nat) : (pb n k).size = k := by unfold pb; rw [strOfNums_size, pieces_length]

theorem put1 (n : Int) (w : World) (h0 : 0 ≤ n) (h1 : n < 256) : Calls Tryd.prog 33 #[.int .u64 n, .int .i64 1] w fun e w' => e = .returned (.string (pb n 1)) ∧ Below w.heap.size w w' := by
  go_enter Tryd.func33, Tryd.ntmps33
  go_wp2_with fail
  refine (put_1 n _ h0 h1).mono ?_
  rintro x w1 ⟨rfl, g⟩
  go_wp2_with fail
  go_ret
  exact ⟨rfl, g⟩
theorem put2 (n : Int) (w : World) (h0 : 0 ≤ n) (h1 : n < 65536) : Calls Tryd.prog 33 #[.int .u64 n, .int .i64 2] w fun e w' => e = .returned (.string (pb n 2)) ∧ Below w.heap.size w w' := by
  go_enter Tryd.func33, Tryd.ntmps33
  go_wp2_with fail
  refine (put_2 n _ h0 h1).mono ?_
  rintro x w1 ⟨rfl, g⟩
  go_wp2_with fail
  go_ret
  exact ⟨rfl, g⟩
theorem put4 (n : Int) (w : World) (h0 : 0 ≤ n) (h1 : n < 4294967296) : Calls Tryd.prog 33 #[.int .u64 n, .int .i64 4] w fun e w' => e = .returned (.string (pb n 4)) ∧ Below w.heap.size w w' := by
  go_enter Tryd.func33, Tryd.ntmps33
  go_wp2_with fail
  refine (put_4 n _ h0 h1).mono ?_
  rintro x w1 ⟨rfl, g⟩
  go_wp2_with fail
  go_ret
  exact ⟨rfl, g⟩
theorem put6 (n : Int) (w : World) (h0 : 0 ≤ n) (h1 : n < 281474976710656) : Calls Tryd.prog 33 #[.int .u64 n, .int .i64 6] w fun e w' => e = .returned (.string (pb n 6)) ∧ Below w.heap.size w w' := by
  go_enter Tryd.func33, Tryd.ntmps33
  go_wp2_with fail
  refine (put_6 n _ h0 h1).mono ?_
  rintro x w1 ⟨rfl, g⟩
  go_wp2_with fail
  go_ret
  exact ⟨rfl, g⟩
theorem two_any (n : Int) (w : World) (h0 : 0 ≤ n) (h1 : n < 65536) : Calls Tryd.prog 34 #[.int .i64 n] w fun e w' => e = .returned (.string (pb n 2)) ∧ Below w.heap.size w w' := by
  go_enter Tryd.func34, Tryd.ntmps34
  go_wp2_with fail
  refine (put2 n _ h0 h1).mono ?_
  rintro x w1 ⟨rfl, g⟩
  go_wp2_with fail
  go_ret
  exact ⟨rfl, g⟩
theorem one_any (n : Int) (w : World) (h0 : 0 ≤ n) (h1 : n < 256) : Calls Tryd.prog 52 #[.int .i64 n] w fun e w' => e = .returned (.string (pb n 1)) ∧ Below w.heap.size w w' := by
  go_enter Tryd.func52, Tryd.ntmps52
  go_wp2_with fail
  refine (put1 n _ h0 h1).mono ?_
  rintro x w1 ⟨rfl, g⟩
  go_wp2_with fail
  go_ret
  exact ⟨rfl, g⟩
end Go.Proofs.YtmlonfchbkmbcabDoor.Fr
