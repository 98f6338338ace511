/-
  Rows of ten numbers, and cubes of two rows, in memory; each loaded, stored, boxed and made as one.
-/
import Derived.Test.YtmobmpghpdaddaaRows
import Derived.Test.YtmobmpghpdaddaaCub
import Derived.WalkKit
import Derived.WalkLawsBesides
import Derived.ProofKit
import Derived.OpenShut
import Derived.Handy
import Derived.Below
import Derived.Deep.QuietTactic
import Derived.BigQuiet
import Derived.Deep.RegionWith
import Derived.Deep.MidRow
import Derived.Laws.AppendOwn
import Derived.Laws.OwnMore
import Derived.Laws.MakeOwn
import Derived.Laws.StructEq
import Derived.Laws.BitsLemmas
namespace Go.Proofs.Ytmobmpghpdaddaa
open Go.ChangeShapes Go.WideShapes Go.ChangeAt Go.RowKit
set_option linter.unusedVariables false

theorem btr' {k : Nat} {a b c : World} (h : Below k a b) (g : Below k b c) : Below k a c := h.trans g
theorem btr {a b c : World} {k : Nat} (h : Below k a b) (g : Below b.heap.size b c) (hk : k ≤ a.heap.size) : Below k a c := h.trans (g.mono (Nat.le_trans hk h.size))
theorem bdr {B : Nat} {a w : World} (h : Below B a w) (k : Nat) : Below B a (w.drewN k) := ⟨h.os, h.tape, h.output, h.size, h.block⟩
theorem addP (g o j : Nat) : (⟨g, o, none⟩ : Addr).add j = ⟨g, o + j, none⟩ := by unfold Addr.add; split <;> simp_all

theorem wrap_u (n : Int) : IntKind.u64.wrap n = n % 18446744073709551616 := by simp [IntKind.wrap, IntKind.bits, IntKind.signed]
theorem wrap_nat (b : B64) : IntKind.u64.wrap (b.toNat : Int) = (b.toNat : Int) := by rw [wrap_u]; have := b.isLt; omega
theorem ofInt_nat (b : B64) : BitVec.ofInt 64 (b.toNat : Int) = b := by
  apply BitVec.eq_of_toNat_eq
  rw [BitVec.toNat_ofInt]
  have := b.isLt
  omega
/-- A number, a row, a cube: as values. -/
def nb (b : B64) : Int := (b.toNat : Int)
abbrev cv (b : B64) : Value := .int .u64 (nb b)
theorem b_and (x y : B64) : bits .and .u64 (nb x) (nb y) = nb (x &&& y) := by
  have h : bits .and .u64 (x.toNat : Int) (y.toNat : Int) = IntKind.u64.wrap ((BitVec.ofInt 64 (x.toNat : Int) &&& BitVec.ofInt 64 (y.toNat : Int)).toNat : Int) := rfl
  unfold nb
  rw [h, ofInt_nat, ofInt_nat, wrap_nat]
theorem b_or (x y : B64) : bits .or .u64 (nb x) (nb y) = nb (x ||| y) := by
  have h : bits .or .u64 (x.toNat : Int) (y.toNat : Int) = IntKind.u64.wrap ((BitVec.ofInt 64 (x.toNat : Int) ||| BitVec.ofInt 64 (y.toNat : Int)).toNat : Int) := rfl
  unfold nb
  rw [h, ofInt_nat, ofInt_nat, wrap_nat]
theorem b_not (x y : B64) : bits .andNot .u64 (nb x) (nb y) = nb (x &&& ~~~ y) := by
  have h : bits .andNot .u64 (x.toNat : Int) (y.toNat : Int) = IntKind.u64.wrap ((BitVec.ofInt 64 (x.toNat : Int) &&& ~~~ BitVec.ofInt 64 (y.toNat : Int)).toNat : Int) := rfl
  unfold nb
  rw [h, ofInt_nat, ofInt_nat, wrap_nat]
theorem nb_inj {a b : B64} : nb a = nb b ↔ a = b := by unfold nb; exact ⟨fun h => BitVec.eq_of_toNat_eq (by omega), fun h => by rw [h]⟩
theorem nb_lo (a : B64) : 0 ≤ nb a := by unfold nb; omega
theorem nb_hi (a : B64) : nb a < 18446744073709551616 := by unfold nb; have := a.isLt; omega
theorem nb_zero : nb 0#64 = 0 := rfl
def rowL (r : Nat → B64) : List Value := (List.range 10).map fun f => cv (r f)
def rowA (r : Nat → B64) : Array Value := (rowL r).toArray
def cubL (k : K) : List Value := rowL k.m ++ rowL k.v
def cubA (k : K) : Array Value := (cubL k).toArray
theorem rowL_len (r : Nat → B64) : (rowL r).length = 10 := by simp [rowL]
theorem cubL_len (k : K) : (cubL k).length = 20 := by simp [cubL, rowL_len]
theorem rowA_size (r : Nat → B64) : (rowA r).size = 10 := by simp [rowA, rowL_len]
theorem cubA_size (k : K) : (cubA k).size = 20 := by simp [cubA, cubL_len]
theorem rowL_at (r : Nat → B64) (f : Nat) (h : f < 10) : (rowL r)[f]? = some (cv (r f)) := by
  unfold rowL
  rw [List.getElem?_map, List.getElem?_range h]
  rfl
theorem cubL_m (k : K) (f : Nat) (h : f < 10) : (cubL k)[f]? = some (cv (k.m f)) := by
  unfold cubL
  rw [List.getElem?_append_left (by rw [rowL_len]; exact h), rowL_at _ _ h]
theorem cubL_v (k : K) (f : Nat) (h : f < 10) : (cubL k)[10 + f]? = some (cv (k.v f)) := by
  unfold cubL
  rw [List.getElem?_append_right (by rw [rowL_len]; omega), rowL_len, Nat.add_sub_cancel_left, rowL_at _ _ h]
theorem rowL_one (r : Nat → B64) : ∀ u ∈ rowL r, u.oneCell' = true := by
  intro u hu
  unfold rowL at hu
  obtain ⟨f, _, rfl⟩ := List.mem_map.1 hu
  rfl
theorem cubL_one (k : K) : ∀ u ∈ cubL k, u.oneCell' = true := by
  intro u hu
  rcases List.mem_append.1 hu with h | h
  · exact rowL_one _ u h
  · exact rowL_one _ u h
theorem rowL_inj {r s : Nat → B64} (h : rowL r = rowL s) : ∀ f, f < 10 → r f = s f := by
  intro f hf
  have h1 := rowL_at r f hf
  have h2 := rowL_at s f hf
  rw [h, h2] at h1
  have := Value.int.inj (Option.some.inj h1)
  exact (nb_inj.1 this.2).symm
theorem rowL_ext {r s : Nat → B64} (h : ∀ f, f < 10 → r f = s f) : rowL r = rowL s := by
  unfold rowL
  exact List.map_congr_left fun f hf => by rw [h f (List.mem_range.1 hf)]

/-- A row lies at a place; a cube does. -/
def R10 (w : World) (b o : Nat) (r : Nat → B64) : Prop := ∀ f, f < 10 → w.cell? ⟨b, o + f, none⟩ = some (cv (r f))
def C20 (w : World) (b o : Nat) (k : K) : Prop := R10 w b o k.m ∧ R10 w b (o + 10) k.v
theorem R10.block {w w' : World} {b o : Nat} {r : Nat → B64} (h : R10 w b o r) (g : w'.heap[b]? = w.heap[b]?) : R10 w' b o r := fun f hf => (World.cell?_of_block (w := w) g).trans (h f hf)
theorem R10.below {w w' : World} {b o B : Nat} {r : Nat → B64} (h : R10 w b o r) (hb : b < B) (g : Below B w w') : R10 w' b o r := h.block (g.block b hb)
theorem C20.block {w w' : World} {b o : Nat} {k : K} (h : C20 w b o k) (g : w'.heap[b]? = w.heap[b]?) : C20 w' b o k := ⟨h.1.block g, h.2.block g⟩
theorem C20.below {w w' : World} {b o B : Nat} {k : K} (h : C20 w b o k) (hb : b < B) (g : Below B w w') : C20 w' b o k := h.block (g.block b hb)
theorem R10.range {w : World} {b o : Nat} {r : Nat → B64} (h : R10 w b o r) : w.rangeAt b o (rowL r) := by
  intro j v hv
  have hj : j < 10 := by have := (List.getElem?_eq_some_iff.1 hv).1; rwa [rowL_len] at this
  rw [rowL_at r j hj] at hv
  rw [← Option.some.inj hv]
  exact h j hj
theorem R10.of_range {w : World} {b o : Nat} {r : Nat → B64} (h : w.rangeAt b o (rowL r)) : R10 w b o r := fun f hf => h f _ (rowL_at r f hf)
theorem C20.range {w : World} {b o : Nat} {k : K} (h : C20 w b o k) : w.rangeAt b o (cubL k) := by
  intro j v hv
  have hj : j < 20 := by have := (List.getElem?_eq_some_iff.1 hv).1; rwa [cubL_len] at this
  by_cases h1 : j < 10
  · rw [cubL_m k j h1] at hv
    rw [← Option.some.inj hv]
    exact h.1 j h1
  · obtain ⟨f, rfl⟩ : ∃ f, j = 10 + f := ⟨j - 10, by omega⟩
    rw [cubL_v k f (by omega)] at hv
    rw [← Option.some.inj hv, show o + (10 + f) = o + 10 + f by omega]
    exact h.2 f (by omega)
theorem C20.of_range {w : World} {b o : Nat} {k : K} (h : w.rangeAt b o (cubL k)) : C20 w b o k :=
  ⟨fun f hf => h f _ (cubL_m k f hf), fun f hf => by rw [show o + 10 + f = o + (10 + f) by omega]; exact h _ _ (cubL_v k f hf)⟩
theorem R10.new (w : World) (r : Nat → B64) (t : TypeId) : R10 (w.alloc (.cells (rowA r) t)) w.heap.size 0 r := by
  intro f hf
  have h : (w.alloc (.cells (rowA r) t)).heap[w.heap.size]? = some (.cells (rowA r) t (0, 0)) := heap_alloc_new w _
  rw [cell_of_row _ _ _ _ _ _ h, Nat.zero_add]
  unfold rowA
  rw [List.getElem?_toArray]
  exact rowL_at r f hf
theorem C20.new (w : World) (k : K) (t : TypeId) : C20 (w.alloc (.cells (cubA k) t)) w.heap.size 0 k := by
  apply C20.of_range
  intro j v hv
  have h : (w.alloc (.cells (cubA k) t)).heap[w.heap.size]? = some (.cells (cubA k) t (0, 0)) := heap_alloc_new w _
  rw [cell_of_row _ _ _ _ _ _ h, Nat.zero_add]
  unfold cubA
  rw [List.getElem?_toArray]
  exact hv
theorem info_row : (Try.prog.info? 62).map (·.size) = some 10 := by kernel_rfl
theorem info_cube : (Try.prog.info? 70).map (·.size) = some 20 := by kernel_rfl
theorem under_row : Try.prog.underlying 62 = some (.array 10 30) := by kernel_rfl
theorem load_row {w : World} {ops : Array Oper} {rest : List Oper} {o : Oper} {a : Go.Act} {Q : Exit → Go.Act → World → Prop} (hgd : o.guard = none) (x : Operand) (ho : o.op = .load 62 x) (b off : Nat) (hx : a.eval x = .pointer (some ⟨b, off, none⟩)) (r : Nat → B64) (h : R10 w b off r)
    (hQ : wpList Try.prog ops Q rest (a.put o.dst (.agg (rowA r))) w) : wpList Try.prog ops Q (o :: rest) a w :=
  wpList_load_mid hgd 62 x ho b off hx _ _ h.range under_row rfl (by rw [rowL_len]; exact info_row) hQ
theorem under_cube : Try.prog.underlying 70 = some (.struct (Try.prog.fieldsOf 70)) := by kernel_rfl
theorem load_cub {w : World} {ops : Array Oper} {rest : List Oper} {o : Oper} {a : Go.Act} {Q : Exit → Go.Act → World → Prop} (hgd : o.guard = none) (x : Operand) (ho : o.op = .load 70 x) (b off : Nat) (hx : a.eval x = .pointer (some ⟨b, off, none⟩)) (k : K) (h : C20 w b off k)
    (hQ : wpList Try.prog ops Q rest (a.put o.dst (.agg (cubA k))) w) : wpList Try.prog ops Q (o :: rest) a w :=
  wpList_load_mid hgd 70 x ho b off hx _ _ h.range under_cube rfl (by rw [cubL_len]; exact info_cube) hQ
/-- A block of cells that may be written. -/
def Wr (w : World) (b n : Nat) : Prop := w.there b 0 n
theorem wr_new (w : World) (c : Array Value) (t : TypeId) : Wr (w.alloc (.cells c t)) w.heap.size c.size := by
  intro j hj
  have h : (w.alloc (.cells c t)).heap[w.heap.size]? = some (.cells c t (0, 0)) := heap_alloc_new w _
  refine ⟨?_, by simp⟩
  rw [cell_of_row _ _ _ _ _ _ h, Nat.zero_add]
  simp [hj]
theorem store_row {w : World} {ops : Array Oper} {rest : List Oper} {o : Oper} {a : Go.Act} {Q : Exit → Go.Act → World → Prop} (hgd : o.guard = none) (x y : Operand) (ho : o.op = .store 62 x y) (b off : Nat) (hx : a.eval x = .pointer (some ⟨b, off, none⟩)) (r : Nat → B64) (hy : a.eval y = .agg (rowA r)) (ht : w.there b off 10)
    (hQ : wpList Try.prog ops Q rest (a.put o.dst undef) (w.setCells b off (rowL r))) : wpList Try.prog ops Q (o :: rest) a w :=
  wpList_store_mid hgd 62 x y ho b off (rowA r) hx hy (by rw [rowA_size]; exact ht) (by rw [rowA_size]; exact info_row) (all_oneCell_toArray (rowL_one r)) (by simpa [rowA] using hQ)
theorem store_cub {w : World} {ops : Array Oper} {rest : List Oper} {o : Oper} {a : Go.Act} {Q : Exit → Go.Act → World → Prop} (hgd : o.guard = none) (x y : Operand) (ho : o.op = .store 70 x y) (b off : Nat) (hx : a.eval x = .pointer (some ⟨b, off, none⟩)) (k : K) (hy : a.eval y = .agg (cubA k)) (ht : w.there b off 20)
    (hQ : wpList Try.prog ops Q rest (a.put o.dst undef) (w.setCells b off (cubL k))) : wpList Try.prog ops Q (o :: rest) a w :=
  wpList_store_mid hgd 70 x y ho b off (cubA k) hx hy (by rw [cubA_size]; exact ht) (by rw [cubA_size]; exact info_cube) (all_oneCell_toArray (cubL_one k)) (by simpa [cubA] using hQ)
theorem stored_row {w : World} {b o : Nat} (h : w.there b o 10) (r : Nat → B64) : R10 (w.setCells b o (rowL r)) b o r := R10.of_range (World.rangeAt_setCells_same w b o (rowL r) (by rw [rowL_len]; exact h))
theorem stored_cub {w : World} {b o : Nat} (h : w.there b o 20) (k : K) : C20 (w.setCells b o (cubL k)) b o k := C20.of_range (World.rangeAt_setCells_same w b o (cubL k) (by rw [cubL_len]; exact h))
theorem below_setCells {W w : World} {B : Nat} (h : Below B W w) {b : Nat} (hb : B ≤ b) : ∀ (vs : List Value) (o : Nat), Below B W (w.setCells b o vs) := fun vs => by
  induction vs generalizing w with
  | nil => intro o; exact h
  | cons v vs ih => intro o; exact ih (h.setCell (by simpa using hb) v) (o + 1)
theorem there_block {w w' : World} {b o n : Nat} (h : w.there b o n) (g : w'.heap[b]? = w.heap[b]?) : w'.there b o n := fun j hj => by
  rw [World.cell?_of_block (w := w) g, World.frozen?_of_block (w := w) g]
  exact h j hj
theorem there_new (w : World) (c : Array Value) (t : TypeId) (n : Nat) (hn : c.size = n) : (w.alloc (.cells c t)).there w.heap.size 0 n := by
  subst hn
  exact wr_new w c t
/-- One number of a row is written. -/
theorem R10.set {w : World} {b o : Nat} {r : Nat → B64} (h : R10 w b o r) {f : Nat} (hf : f < 10) (x : B64) : R10 (w.setCell ⟨b, o + f, none⟩ (cv x)) b o (upd r f x) := by
  intro g hg
  by_cases e : g = f
  · subst e
    rw [upd_same]
    exact World.cell?_setCell_same _ _ _ (h g hg)
  · rw [upd_other _ _ e]
    exact (World.cell?_setCell_other _ _ _ _ (fun e' => e (by have := (Addr.mk.inj e').2.1; omega))).trans (h g hg)
/-- A row stays where a cell beside it is written. -/
theorem R10.beside {w : World} {b o : Nat} {r : Nat → B64} (h : R10 w b o r) {b' p : Nat} (hp : b' ≠ b ∨ p < o ∨ o + 10 ≤ p) (x : Value) : R10 (w.setCell ⟨b', p, none⟩ x) b o r := by
  intro g hg
  refine (World.cell?_setCell_other _ _ _ _ (fun e' => ?_)).trans (h g hg)
  have e1 := (Addr.mk.inj e').1
  have e2 := (Addr.mk.inj e').2.1
  omega
theorem there_set {w : World} {b o n : Nat} (h : w.there b o n) (p : Addr) (x : Value) : (w.setCell p x).there b o n := fun j hj => by
  obtain ⟨h1, h2⟩ := h j hj
  refine ⟨?_, by simpa using h2⟩
  by_cases e : p = ⟨b, o + j, none⟩
  · subst e
    obtain ⟨v, hv⟩ := Option.isSome_iff_exists.1 h1
    rw [World.cell?_setCell_same _ _ _ hv]; rfl
  · rw [World.cell?_setCell_other _ _ _ _ e]; exact h1
theorem there_drew {w : World} {b o n : Nat} (h : w.there b o n) : w.drew.there b o n := h
theorem R10.drew {w : World} {b o : Nat} {r : Nat → B64} (h : R10 w b o r) : R10 w.drew b o r := h
/-- What is answered out of cells. -/
theorem results_row {fn : Func} {p : Tmp} (h : fn.results = #[.cell p 62]) (tmps : Array Value) (w : World) (b o : Nat) (r : Nat → B64) (hp : tmps.getD p undef = .pointer (some ⟨b, o, none⟩)) (hr : R10 w b o r) : (results fn tmps).run Try.prog w = .ok (.agg (rowA r)) w := by
  have hp' : tmps[p]?.getD undef = .pointer (some ⟨b, o, none⟩) := by simpa using hp
  have := run_loadVar_mid (P := Try.prog) w b o 62 _ _ hr.range under_row rfl (by rw [rowL_len]; exact info_row)
  simp [results, h, hp', asAddr, this, rowA]
theorem results_cub {fn : Func} {p : Tmp} (h : fn.results = #[.cell p 70]) (tmps : Array Value) (w : World) (b o : Nat) (k : K) (hp : tmps.getD p undef = .pointer (some ⟨b, o, none⟩)) (hr : C20 w b o k) : (results fn tmps).run Try.prog w = .ok (.agg (cubA k)) w := by
  have hp' : tmps[p]?.getD undef = .pointer (some ⟨b, o, none⟩) := by simpa using hp
  have := run_loadVar_mid (P := Try.prog) w b o 70 _ _ hr.range under_cube rfl (by rw [cubL_len]; exact info_cube)
  simp [results, h, hp', asAddr, this, cubA]
def zeroR : Nat → B64 := fun _ => 0#64
theorem zero_row : (#[.int .u64 0, .int .u64 0, .int .u64 0, .int .u64 0, .int .u64 0, .int .u64 0, .int .u64 0, .int .u64 0, .int .u64 0, .int .u64 0] : Array Value) = rowA zeroR := by rfl
theorem zero_cub : (#[.int .u64 0, .int .u64 0, .int .u64 0, .int .u64 0, .int .u64 0, .int .u64 0, .int .u64 0, .int .u64 0, .int .u64 0, .int .u64 0, .int .u64 0, .int .u64 0, .int .u64 0, .int .u64 0, .int .u64 0, .int .u64 0, .int .u64 0, .int .u64 0, .int .u64 0, .int .u64 0] : Array Value) = cubA K.top := by rfl
end Go.Proofs.Ytmobmpghpdaddaa
