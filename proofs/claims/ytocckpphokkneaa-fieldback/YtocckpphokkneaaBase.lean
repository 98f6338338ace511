/-
  A packet in a switch as the program has it; a region that draws its order, whose callees make memory and leave what was there: walked once.
-/
import Derived.Test.YtocckpphokkneaaRows
import Derived.WalkKit
import Derived.ProofKit
import Derived.OpenShut
import Derived.Handy
import Derived.BigQuiet
import Derived.Deep.RegionWith
import Derived.Laws.ResultCell
import Derived.Laws.BitsLemmas
namespace Go.Proofs.Ytocckpphokkneaa
open Go.ChangeShapes Go.WideShapes Go.ChangeAt Go.RowKit

/-- A packet in a switch. -/
structure Sn where
  inp : Int
  mt : Int
  to : Int
  fr : Int
  vl : Int
  ty : Int
  src : Int
  dst : Int
  life : Int
  pro : Int
  sp : Int
  dp : Int
  data : ByteArray

/-- Its value, its packet's value, its cells, and that they lie in block b. -/
abbrev snV (s : Sn) : Value := .agg #[.int .i64 s.inp, .int .u64 s.mt, .int .u64 s.to, .int .u64 s.fr, .int .i64 s.vl, .int .i64 s.ty, .int .u32 s.src, .int .u32 s.dst, .int .i64 s.life, .int .i64 s.pro, .int .i64 s.sp, .int .i64 s.dp, .string s.data]
abbrev pkV (s : Sn) : Value := .agg #[.int .u64 s.to, .int .u64 s.fr, .int .i64 s.vl, .int .i64 s.ty, .int .u32 s.src, .int .u32 s.dst, .int .i64 s.life, .int .i64 s.pro, .int .i64 s.sp, .int .i64 s.dp, .string s.data]
abbrev snC (s : Sn) : Array Value := #[.int .i64 s.inp, .int .u64 s.mt, .int .u64 s.to, .int .u64 s.fr, .int .i64 s.vl, .int .i64 s.ty, .int .u32 s.src, .int .u32 s.dst, .int .i64 s.life, .int .i64 s.pro, .int .i64 s.sp, .int .i64 s.dp, .string s.data]
abbrev bx (w : World) (s : Sn) : World := w.alloc (.cells (snC s) 27)
abbrev rx (w : World) (s : Sn) : World := w.alloc (.cells (snC s) 32)
abbrev Bx (w : World) (b : Nat) (s : Sn) : Prop :=
  w.cell? ⟨b, 0, none⟩ = some (.int .i64 s.inp) ∧ w.cell? ⟨b, 1, none⟩ = some (.int .u64 s.mt) ∧ w.cell? ⟨b, 2, none⟩ = some (.int .u64 s.to) ∧ w.cell? ⟨b, 3, none⟩ = some (.int .u64 s.fr) ∧ w.cell? ⟨b, 4, none⟩ = some (.int .i64 s.vl) ∧ w.cell? ⟨b, 5, none⟩ = some (.int .i64 s.ty) ∧ w.cell? ⟨b, 6, none⟩ = some (.int .u32 s.src) ∧ w.cell? ⟨b, 7, none⟩ = some (.int .u32 s.dst) ∧ w.cell? ⟨b, 8, none⟩ = some (.int .i64 s.life) ∧ w.cell? ⟨b, 9, none⟩ = some (.int .i64 s.pro) ∧ w.cell? ⟨b, 10, none⟩ = some (.int .i64 s.sp) ∧ w.cell? ⟨b, 11, none⟩ = some (.int .i64 s.dp) ∧ w.cell? ⟨b, 12, none⟩ = some (.string s.data)
theorem Bx.new (w : World) (s : Sn) : Bx (bx w s) w.heap.size s := by unfold Bx bx; simp
theorem Bx.newr (w : World) (s : Sn) : Bx (rx w s) w.heap.size s := by unfold Bx rx; simp
theorem Bx.block {w w' : World} {b : Nat} {s : Sn} (h : Bx w b s) (g : w'.heap[b]? = w.heap[b]?) : Bx w' b s := by
  obtain ⟨h0, h1, h2, h3, h4, h5, h6, h7, h8, h9, h10, h11, h12⟩ := h
  have e : ∀ o, w'.cell? ⟨b, o, none⟩ = w.cell? ⟨b, o, none⟩ := fun o => World.cell?_of_block (w := w) g
  exact ⟨(e _).trans h0, (e _).trans h1, (e _).trans h2, (e _).trans h3, (e _).trans h4, (e _).trans h5, (e _).trans h6, (e _).trans h7, (e _).trans h8, (e _).trans h9, (e _).trans h10, (e _).trans h11, (e _).trans h12⟩
theorem Bx.below {w w' : World} {b B : Nat} {s : Sn} (h : Bx w b s) (hb : b < B) (g : Below B w w') : Bx w' b s := h.block (g.block b hb)

/-- A world that was grown out of another one. -/
structure GrS (W : World) where
  w : World
  h : Below W.heap.size W w
/-- Such a world, or that one itself. -/
abbrev GrT (W : World) : Type := Option (GrS W)
def GrT.w {W : World} : GrT W → World
  | none => W
  | some g => g.w
theorem GrT.h {W : World} : (n : GrT W) → Below W.heap.size W n.w
  | none => Below.refl _ _
  | some g => g.h
theorem gr_elim {W w' : World} (h : ∃ n : GrT W, w' = n.w) : Below W.heap.size W w' := by
  obtain ⟨n, rfl⟩ := h
  exact n.h

theorem wp_region_grow {P : Program} {id : Nat} {Q : Exit → Act → World → Prop} {a : Act} {w : World} {l : List Oper} (hm : P.follows .mixedOrders = true) (hB : Region.lexB .any l.toArray = true)
    (h : wpQuiet P l.toArray (fun w' => ∃ n : GrT w, w' = n.w) (fun a' => ∀ w', (∃ n : GrT w, w' = n.w) → Q .normal a' w') l a) : (Code.region id l.toArray true).wp P Q a w :=
  wp_region_quiet (C := fun w' => ∃ n : GrT w, w' = n.w) hm hB ⟨some ⟨_, (Below.refl _ w).drew⟩, rfl⟩ (by simpa using h)

theorem btr {a b c : World} {k : Nat} (h : Below k a b) (g : Below b.heap.size b c) (hk : k ≤ a.heap.size) : Below k a c := h.trans (g.mono (Nat.le_trans hk h.size))

/-- A callee that leaves what was there. -/
theorem quiet_gr {P : Program} {f : FuncId} {args : Array Value} {W : World} {n : GrT W} {v : Value}
    (h : Calls P f args n.w fun e w' => e = .returned v ∧ Below n.w.heap.size n.w w') : Calls P f args n.w fun e w'' => e = .returned v ∧ ∃ m : GrT W, w'' = m.w :=
  h.mono fun _ w' ⟨he, hm⟩ => ⟨he, some ⟨w', btr n.h hm (Nat.le_refl _)⟩, rfl⟩
theorem quiet_gs {P : Program} {f : FuncId} {args : Array Value} {W : World} {n : GrT W} {v : Value}
    (h : Calls P f args n.w fun e w' => e = .returned v ∧ w' = n.w) : Calls P f args n.w fun e w'' => e = .returned v ∧ ∃ m : GrT W, w'' = m.w :=
  h.mono fun _ _ ⟨he, hm⟩ => ⟨he, n, hm⟩

/-- What is answered in cells. -/
theorem load27 (w : World) (b : Nat) (s : Sn) (h : Bx w b s) : (loadVar 27 ⟨b, 0, none⟩).run Try.prog w = .ok (snV s) w := by
  obtain ⟨h0, h1, h2, h3, h4, h5, h6, h7, h8, h9, h10, h11, h12⟩ := h
  simp [go_sem, *]
theorem load32 (w : World) (b : Nat) (s : Sn) (h : Bx w b s) : (loadVar 32 ⟨b, 0, none⟩).run Try.prog w = .ok (snV s) w := by
  obtain ⟨h0, h1, h2, h3, h4, h5, h6, h7, h8, h9, h10, h11, h12⟩ := h
  simp [go_sem, *]
theorem res27 {fn : Func} {t : Tmp} (h : fn.results = #[.cell t 27]) {tmps : Array Value} {w : World} {b : Nat} {s : Sn} (ht : tmps.getD t undef = .pointer (some ⟨b, 0, none⟩)) (hs : Bx w b s) :
    (results fn tmps).run Try.prog w = .ok (snV s) w := by
  have ht' : tmps[t]?.getD undef = .pointer (some ⟨b, 0, none⟩) := by simpa using ht
  simp [results, h, ht', asAddr, load27 w b s hs]
theorem res32 {fn : Func} {t : Tmp} (h : fn.results = #[.cell t 32]) {tmps : Array Value} {w : World} {b : Nat} {s : Sn} (ht : tmps.getD t undef = .pointer (some ⟨b, 0, none⟩)) (hs : Bx w b s) :
    (results fn tmps).run Try.prog w = .ok (snV s) w := by
  have ht' : tmps[t]?.getD undef = .pointer (some ⟨b, 0, none⟩) := by simpa using ht
  simp [results, h, ht', asAddr, load32 w b s hs]
theorem res27e {fn : Func} {t u : Tmp} (h : fn.results = #[.cell t 27, .tmp u]) {tmps : Array Value} {w : World} {b : Nat} {s : Sn} (ht : tmps.getD t undef = .pointer (some ⟨b, 0, none⟩)) (hs : Bx w b s) :
    (results fn tmps).run Try.prog w = .ok (.tuple #[snV s, tmps.getD u undef]) w := by
  have ht' : tmps[t]?.getD undef = .pointer (some ⟨b, 0, none⟩) := by simpa using ht
  simp [results, h, ht', asAddr, load27 w b s hs]
theorem res32e {fn : Func} {t u : Tmp} (h : fn.results = #[.cell t 32, .tmp u]) {tmps : Array Value} {w : World} {b : Nat} {s : Sn} (ht : tmps.getD t undef = .pointer (some ⟨b, 0, none⟩)) (hs : Bx w b s) :
    (results fn tmps).run Try.prog w = .ok (.tuple #[snV s, tmps.getD u undef]) w := by
  have ht' : tmps[t]?.getD undef = .pointer (some ⟨b, 0, none⟩) := by simpa using ht
  simp [results, h, ht', asAddr, load32 w b s hs]
end Go.Proofs.Ytocckpphokkneaa
