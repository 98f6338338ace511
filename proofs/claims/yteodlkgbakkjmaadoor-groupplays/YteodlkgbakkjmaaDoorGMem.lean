/-
  Buckets and groups as the program has them: values, cells, slices.
-/
import Derived.Test.YteodlkgbakkjmaaDoorApp
import Derived.Test.YteodlkgbakkjmaaDoorSpec
import Derived.Deep.MidRow
namespace Go.Proofs.YteodlkgbakkjmaaDoor
open Go.ChangeShapes Go.WideShapes Go.ChangeAt Go.RowKit
set_option linter.unusedVariables false

/-- A bucket: Watch, Weight, Actions. -/
abbrev B3 := Int × Int × List A
/-- A bucket as it lies in memory. -/
structure Bk where
  wa : Int
  we : Int
  a : Option Addr
  l : List A
  c : Nat
def Bk.b3 (b : Bk) : B3 := (b.wa, b.we, b.l)
abbrev bkV (b : Bk) : Value := .agg #[.int .i64 b.wa, .int .i64 b.we, .slice b.a b.l.length b.c]
abbrev bkC (b : Bk) : Array Value := #[.int .i64 b.wa, .int .i64 b.we, .slice b.a b.l.length b.c]
abbrev bx (w : World) (b : Bk) : World := w.alloc (.cells (bkC b) 51)
abbrev Cb (w : World) (g o : Nat) (b : Bk) : Prop := w.cell? ⟨g, o, none⟩ = some (.int .i64 b.wa) ∧ w.cell? ⟨g, o + 1, none⟩ = some (.int .i64 b.we) ∧ w.cell? ⟨g, o + 2, none⟩ = some (.slice b.a b.l.length b.c)
theorem Cb.new (w : World) (t : Bk) : Cb (bx w t) w.heap.size 0 t := by unfold Cb bx; simp
theorem Cb.block {w w' : World} {b o : Nat} {t : Bk} (h : Cb w b o t) (g : w'.heap[b]? = w.heap[b]?) : Cb w' b o t := by
  obtain ⟨h0, h1, h2⟩ := h
  have e : ∀ o, w'.cell? ⟨b, o, none⟩ = w.cell? ⟨b, o, none⟩ := fun o => World.cell?_of_block (w := w) g
  exact ⟨(e _).trans h0, (e _).trans h1, (e _).trans h2⟩
theorem Cb.below {w w' : World} {b o B : Nat} {t : Bk} (h : Cb w b o t) (hb : b < B) (g : Below B w w') : Cb w' b o t := h.block (g.block b hb)
theorem Cb.gr {W : World} {b o : Nat} {t : Bk} (h : Cb W b o t) (hb : b < W.heap.size) (n : GrT W) : Cb n.w b o t := h.below hb n.h
/-- A slice's address, and the buckets that lie there. -/
def Bs (w : World) (a : Option Addr) (l : List Bk) : Prop :=
  (∀ b ∈ l, Ts w b.a b.l) ∧ (l = [] ∨ ∃ g o, a = some ⟨g, o, none⟩ ∧ g < w.heap.size ∧ ∀ i (h : i < l.length), Cb w g (o + i * 3) l[i])
theorem Bs.below {w w' : World} {a : Option Addr} {l : List Bk} (h : Bs w a l) (g : Below w.heap.size w w') : Bs w' a l := by
  refine ⟨fun b hb => (h.1 b hb).below g, ?_⟩
  rcases h.2 with h | ⟨b, o, ha, hb, hc⟩
  · exact .inl h
  · exact .inr ⟨b, o, ha, Nat.lt_of_lt_of_le hb g.size, fun i hi => (hc i hi).below hb g⟩
theorem Bs.at {w : World} {a : Option Addr} {l : List Bk} (h : Bs w a l) {k : Nat} (hk : k < l.length) : ∃ g o, a = some ⟨g, o, none⟩ ∧ g < w.heap.size ∧ ∀ i (h : i < l.length), Cb w g (o + i * 3) l[i] := by
  rcases h.2 with rfl | h
  · cases hk
  · exact h
theorem Bs.alloc {w : World} {a : Option Addr} {l : List Bk} (h : Bs w a l) (o : Obj) : Bs (w.alloc o) a l := h.below (by go_grown)
theorem Bs.gr {W : World} {a : Option Addr} {l : List Bk} (h : Bs W a l) (n : GrT W) : Bs n.w a l := h.below n.h
/-- How many buckets and actions there may be, for all that is done here. -/
structure Sm (l : List Bk) : Prop where
  n : l.length ≤ 100
  a : ∀ b ∈ l, b.l.length ≤ 100
/-- Their numbers are of their types. -/
structure BU (l : List Bk) : Prop where
  a : ∀ b ∈ l, AWs b.l
/-- The blocks that buckets and their actions lie in. -/
def InT (a : Option Addr) (l : List A) (b : Nat) : Prop := l ≠ [] ∧ ∃ o, a = some ⟨b, o, none⟩
def InB (a : Option Addr) (l : List Bk) (b : Nat) : Prop := (l ≠ [] ∧ ∃ o, a = some ⟨b, o, none⟩) ∨ ∃ x ∈ l, InT x.a x.l b
theorem Ts.stay {w w' : World} {a : Option Addr} {l : List A} (h : Ts w a l) (hz : w.heap.size ≤ w'.heap.size) (g : ∀ b, InT a l b → b < w.heap.size → w'.heap[b]? = w.heap[b]?) : Ts w' a l := by
  by_cases he : l = []
  · exact .inl he
  rcases h with h | ⟨b, o, ha, hb, hc⟩
  · exact .inl h
  · exact .inr ⟨b, o, ha, Nat.lt_of_lt_of_le hb hz, fun i hi => (hc i hi).block (g b ⟨he, o, ha⟩ hb)⟩
theorem Bs.stay {w w' : World} {a : Option Addr} {l : List Bk} (h : Bs w a l) (hz : w.heap.size ≤ w'.heap.size) (g : ∀ b, InB a l b → b < w.heap.size → w'.heap[b]? = w.heap[b]?) : Bs w' a l := by
  refine ⟨fun x hx => (h.1 x hx).stay hz (fun b hb hlt => g b (.inr ⟨x, hx, hb⟩) hlt), ?_⟩
  by_cases he : l = []
  · exact .inl he
  rcases h.2 with h | ⟨b, o, ha, hb, hc⟩
  · exact .inl h
  · exact .inr ⟨b, o, ha, Nat.lt_of_lt_of_le hb hz, fun i hi => (hc i hi).block (g b (.inl ⟨he, o, ha⟩) hb)⟩
theorem Ts.lt {w : World} {a : Option Addr} {l : List A} (h : Ts w a l) {b : Nat} (hb : InT a l b) : b < w.heap.size := by
  obtain ⟨hn, o, rfl⟩ := hb
  rcases h with h | ⟨b', o', ha, hb, hc⟩
  · exact absurd h hn
  · cases ha; exact hb
theorem Bs.lt {w : World} {a : Option Addr} {l : List Bk} (h : Bs w a l) {b : Nat} (hb : InB a l b) : b < w.heap.size := by
  rcases hb with ⟨hn, o, rfl⟩ | ⟨x, hx, hb⟩
  · rcases h.2 with h | ⟨b', o', ha, hb, hc⟩
    · exact absurd h hn
    · cases ha; exact hb
  · exact (h.1 x hx).lt hb
/-- A group as it lies in memory. -/
structure Gr where
  id : Int
  kd : Int
  a : Option Addr
  l : List Bk
  c : Nat
abbrev gV (g : Gr) : Value := .agg #[.int .i64 g.id, .int .i64 g.kd, .slice g.a g.l.length g.c]
abbrev gC (g : Gr) : Array Value := #[.int .i64 g.id, .int .i64 g.kd, .slice g.a g.l.length g.c]
abbrev gx (w : World) (g : Gr) : World := w.alloc (.cells (gC g) 33)
abbrev Cg (w : World) (b o : Nat) (g : Gr) : Prop := w.cell? ⟨b, o, none⟩ = some (.int .i64 g.id) ∧ w.cell? ⟨b, o + 1, none⟩ = some (.int .i64 g.kd) ∧ w.cell? ⟨b, o + 2, none⟩ = some (.slice g.a g.l.length g.c)
theorem Cg.new (w : World) (t : Gr) : Cg (gx w t) w.heap.size 0 t := by unfold Cg gx; simp
theorem Cg.block {w w' : World} {b o : Nat} {t : Gr} (h : Cg w b o t) (g : w'.heap[b]? = w.heap[b]?) : Cg w' b o t := by
  obtain ⟨h0, h1, h2⟩ := h
  have e : ∀ o, w'.cell? ⟨b, o, none⟩ = w.cell? ⟨b, o, none⟩ := fun o => World.cell?_of_block (w := w) g
  exact ⟨(e _).trans h0, (e _).trans h1, (e _).trans h2⟩
theorem Cg.below {w w' : World} {b o B : Nat} {t : Gr} (h : Cg w b o t) (hb : b < B) (g : Below B w w') : Cg w' b o t := h.block (g.block b hb)
theorem loadG (w : World) (b : Nat) (t : Gr) (h : Cg w b 0 t) : (loadVar 33 ⟨b, 0, none⟩).run Tryd.prog w = .ok (gV t) w := by
  obtain ⟨h0, h1, h2⟩ := h
  simp [go_sem, *]
theorem resG {fn : Func} {k : Tmp} (h : fn.results = #[.cell k 33]) {tmps : Array Value} {w : World} {b : Nat} {t : Gr} (ht : tmps.getD k undef = .pointer (some ⟨b, 0, none⟩)) (hs : Cg w b 0 t) :
    (results fn tmps).run Tryd.prog w = .ok (gV t) w := by
  have ht' : tmps[k]?.getD undef = .pointer (some ⟨b, 0, none⟩) := by simpa using ht
  simp [results, h, ht', asAddr, loadG w b t hs]
theorem resGe {fn : Func} {k u : Tmp} (h : fn.results = #[.cell k 33, .tmp u]) {tmps : Array Value} {w : World} {b : Nat} {t : Gr} (ht : tmps.getD k undef = .pointer (some ⟨b, 0, none⟩)) (hs : Cg w b 0 t) :
    (results fn tmps).run Tryd.prog w = .ok (.tuple #[gV t, tmps.getD u undef]) w := by
  have ht' : tmps[k]?.getD undef = .pointer (some ⟨b, 0, none⟩) := by simpa using ht
  simp [results, h, ht', asAddr, loadG w b t hs]
/-- Three cells stored. -/
theorem s3_cells {w : World} {b o : Nat} {x y z p q r : Value} (h0 : w.cell? ⟨b, o, none⟩ = some p) (h1 : w.cell? ⟨b, o + 1, none⟩ = some q) (h2 : w.cell? ⟨b, o + 2, none⟩ = some r) :
    (((w.setCell ⟨b, o, none⟩ x).setCell ⟨b, o + 1, none⟩ y).setCell ⟨b, o + 2, none⟩ z).cell? ⟨b, o, none⟩ = some x ∧ (((w.setCell ⟨b, o, none⟩ x).setCell ⟨b, o + 1, none⟩ y).setCell ⟨b, o + 2, none⟩ z).cell? ⟨b, o + 1, none⟩ = some y ∧ (((w.setCell ⟨b, o, none⟩ x).setCell ⟨b, o + 1, none⟩ y).setCell ⟨b, o + 2, none⟩ z).cell? ⟨b, o + 2, none⟩ = some z := by
  refine ⟨?_, ?_, ?_⟩
  · rw [World.cell?_setCell_other _ _ _ _ (by simp), World.cell?_setCell_other _ _ _ _ (by simp)]
    exact World.cell?_setCell_same _ _ _ h0
  · rw [World.cell?_setCell_other _ _ _ _ (by simp)]
    exact World.cell?_setCell_same _ _ _ ((World.cell?_setCell_other _ _ _ _ (by simp)).trans h1)
  · exact World.cell?_setCell_same _ _ _ ((World.cell?_setCell_other _ _ _ _ (by simp)).trans ((World.cell?_setCell_other _ _ _ _ (by simp)).trans h2))
/-- Nothing but block b has turned. -/
structure Only (b : Nat) (w w' : World) : Prop where
  os : w'.os = w.os
  tape : w'.tape = w.tape
  output : w'.output = w.output
  size : w'.heap.size = w.heap.size
  block : ∀ k, k ≠ b → w'.heap[k]? = w.heap[k]?
theorem Only.refl (b : Nat) (w : World) : Only b w w := ⟨rfl, rfl, rfl, rfl, fun _ _ => rfl⟩
theorem Only.trans {b : Nat} {w w' w'' : World} (h : Only b w w') (k : Only b w' w'') : Only b w w'' :=
  ⟨k.os.trans h.os, k.tape.trans h.tape, k.output.trans h.output, k.size.trans h.size, fun i hi => (k.block i hi).trans (h.block i hi)⟩
theorem Only.setCell {b : Nat} {w w' : World} (h : Only b w w') (o : Nat) (v : Value) : Only b w (w'.setCell ⟨b, o, none⟩ v) :=
  ⟨h.os, h.tape, h.output, by simp [World.setCell, h.size], fun k hk => (Below.heap_setCell _ _ _ _ hk).trans (h.block k hk)⟩
theorem Only.s3 (w : World) (b o : Nat) (x y z : Value) : Only b w (((w.setCell ⟨b, o, none⟩ x).setCell ⟨b, o + 1, none⟩ y).setCell ⟨b, o + 2, none⟩ z) := (((Only.refl b w).setCell o x).setCell (o + 1) y).setCell (o + 2) z
theorem Only.below {b B : Nat} {w w' a : World} (h : Only b w w') (hb : B ≤ b) (g : Below B a w) : Below B a w' :=
  g.trans ⟨h.os, h.tape, h.output, by rw [h.size]; exact Nat.le_refl _, fun k hk => h.block k (by omega)⟩
/-- What a group is. -/
def Gr.p (g : Gr) : Int × Int × List B3 := (g.id, g.kd, g.l.map Bk.b3)
/-- Buckets as cells. -/
def flatB (l : List Bk) : List Value := l.flatMap fun t => [.int .i64 t.wa, .int .i64 t.we, .slice t.a t.l.length t.c]
theorem flatB_length : ∀ l : List Bk, (flatB l).length = l.length * 3
  | [] => rfl
  | t :: l => by simp only [flatB, List.flatMap_cons, List.length_append, List.length_cons, List.length_nil]; have := flatB_length l; unfold flatB at this; rw [this]; omega
theorem flatB_append (l m : List Bk) : flatB (l ++ m) = flatB l ++ flatB m := by simp [flatB]
theorem flatB_at : ∀ (l : List Bk) (i : Nat) (h : i < l.length), (flatB l)[i * 3]? = some (.int .i64 l[i].wa) ∧ (flatB l)[i * 3 + 1]? = some (.int .i64 l[i].we) ∧ (flatB l)[i * 3 + 2]? = some (.slice l[i].a l[i].l.length l[i].c)
  | t :: l, 0, _ => by simp [flatB]
  | t :: l, i + 1, h => by
    have ih := flatB_at l i (by simpa using h)
    unfold flatB at ih ⊢
    rw [List.flatMap_cons, show (i + 1) * 3 = i * 3 + 3 by omega]
    simpa using ih
theorem flatB_cell (l : List Bk) (j : Nat) (u : Value) (h : (flatB l)[j]? = some u) : ∃ i, ∃ hi : i < l.length, (j = i * 3 ∧ u = .int .i64 l[i].wa) ∨ (j = i * 3 + 1 ∧ u = .int .i64 l[i].we) ∨ (j = i * 3 + 2 ∧ u = .slice l[i].a l[i].l.length l[i].c) := by
  have hj : j < (flatB l).length := by
    rcases Nat.lt_or_ge j (flatB l).length with h' | h'
    · exact h'
    · rw [List.getElem?_eq_none h'] at h; cases h
  rw [flatB_length] at hj
  have hi : j / 3 < l.length := by omega
  obtain ⟨x0, x1, x2⟩ := flatB_at l (j / 3) hi
  refine ⟨j / 3, hi, ?_⟩
  have : j % 3 = 0 ∨ j % 3 = 1 ∨ j % 3 = 2 := by omega
  rcases this with q | q | q
  · have e : j = j / 3 * 3 := by omega
    refine .inl ⟨e, ?_⟩
    rw [← e] at x0
    exact Option.some.inj (h.symm.trans x0)
  · have e : j = j / 3 * 3 + 1 := by omega
    refine .inr (.inl ⟨e, ?_⟩)
    rw [← e] at x1
    exact Option.some.inj (h.symm.trans x1)
  · have e : j = j / 3 * 3 + 2 := by omega
    refine .inr (.inr ⟨e, ?_⟩)
    rw [← e] at x2
    exact Option.some.inj (h.symm.trans x2)
theorem flatB_one (l : List Bk) : ∀ u ∈ flatB l, u.oneCell' = true := by
  intro u hu
  unfold flatB at hu
  rw [List.mem_flatMap] at hu
  obtain ⟨t, _, ht⟩ := hu
  simp at ht
  rcases ht with rfl | rfl | rfl <;> rfl
theorem flatB_set : ∀ (l : List Bk) (i : Nat) (h : i < l.length) (a : Option Addr) (c : Nat), (flatB l).set (i * 3 + 2) (.slice a l[i].l.length c) = flatB (l.set i { l[i] with a := a, c := c })
  | t :: l, 0, _, a, c => by simp [flatB]
  | t :: l, i + 1, h, a, c => by
    have ih := flatB_set l i (by simpa using h) a c
    unfold flatB at ih ⊢
    rw [List.flatMap_cons, show (i + 1) * 3 + 2 = (i * 3 + 2) + 3 by omega]
    simp only [List.cons_append, List.nil_append, List.set_cons_succ, List.getElem_cons_succ, List.flatMap_cons]
    rw [ih]
theorem infoBk : (Tryd.prog.info? 51).map (fun i => (i.zero, i.size, i.bytes)) = some (some (.agg #[.int .i64 0, .int .i64 0, .slice none 0 0]), 3, 40) := by kernel_rfl
theorem Bs.news {w : World} {g o : Nat} {l : List Bk} (h : ∀ i (h : i < l.length), Cb w g (o + i * 3) l[i]) : ∀ j u, (flatB l)[j]? = some u → w.cell? ((⟨g, o, none⟩ : Addr).add j) = some u := by
  intro j u hj
  obtain ⟨i, hi, hh⟩ := flatB_cell l j u hj
  obtain ⟨c0, c1, c2⟩ := h i hi
  rw [addP]
  rcases hh with ⟨rfl, rfl⟩ | ⟨rfl, rfl⟩ | ⟨rfl, rfl⟩
  · exact c0
  · rw [← Nat.add_assoc]; exact c1
  · rw [← Nat.add_assoc]; exact c2
/-- Cells of a row of buckets that the call has made. -/
theorem rowB_cells {base : Nat} {w : World} {g n cap : Nat} {l : List Bk} (hn : n = l.length) (h : w.ownsRow base 51 3 (.slice (some ⟨g, 0, none⟩) n cap) n (flatB l)) (i : Nat) (hi : i < l.length) : Cb w g (i * 3) l[i] := by
  subst hn
  obtain ⟨x0, x1, x2⟩ := flatB_at l i hi
  refine ⟨?_, ?_, ?_⟩
  · rw [h.cellAt (i * 3) (by omega)]; exact x0
  · rw [h.cellAt (i * 3 + 1) (by omega)]; exact x1
  · rw [h.cellAt (i * 3 + 2) (by omega)]; exact x2
theorem rowB_bs {base : Nat} {w : World} {g cap : Nat} {l : List Bk} (h : w.ownsRow base 51 3 (.slice (some ⟨g, 0, none⟩) l.length cap) l.length (flatB l)) (ht : ∀ b ∈ l, Ts w b.a b.l) : Bs w (some ⟨g, 0, none⟩) l :=
  ⟨ht, .inr ⟨g, 0, rfl, (h.lt g rfl).2, fun i hi => by rw [Nat.zero_add]; exact rowB_cells rfl h i hi⟩⟩
/-- Append of buckets, one by one or many, or none. -/
theorem wpList_appB {w : World} {ops : Array Oper} {rest : List Oper} {o : Oper} {a : Act} {Q : Exit → Act → World → Prop} (hgd : o.guard = none) (s x : Operand)
    (ho : o.op = .call { callee := .builtin .append, args := #[s, x], argTypes := #[31, 31] }) (base : Nat) (v : Value) (n : Nat) (xs : List Value) (hs : a.eval s = v) (hown : w.ownsRow base 51 3 v n xs)
    (ad : Option Addr) (cap : Nat) (l : List Bk) (m : Nat) (hm : m = l.length) (hx : a.eval x = .slice ad m cap) (hT : l = [] ∨ ∃ g o, ad = some ⟨g, o, none⟩ ∧ g < w.heap.size ∧ ∀ i (h : i < l.length), Cb w g (o + i * 3) l[i]) (hn : n + l.length ≤ 1000) (hbase : base ≤ w.heap.size)
    (h : ∀ v' w', w'.ownsRow base 51 3 v' (n + l.length) (xs ++ flatB l) → w.grownBy w' v.ownBlock → wpList Tryd.prog ops Q rest (a.put o.dst v') w') : wpList Tryd.prog ops Q (o :: rest) a w := by
  obtain ⟨i0, hi, hz0, hz1, hz2⟩ := info_parts infoBk
  subst hm
  rcases hT with rfl | ⟨g, of, rfl, _, hc⟩
  · have src : Src Tryd.prog i0.size 31 (.slice ad 0 cap) 0 [] w := by
      cases ad with
      | none => exact Src.ofNil w Tryd.underlying31 cap
      | some q => exact Src.ofSlice w Tryd.underlying31 q 0 cap [] (by simp) (fun j u hj => by simp at hj) (fun u hu => by simp at hu)
    rcases hown.2 with ⟨rfl, h0⟩ | ⟨g, c, cur, rfl, hbg, hhg, hnc, hcm, hcs, htk⟩
    · refine Lib.wpList_append_run w hgd s x 31 31 ho _ _ hs hx _ _ (run_append_nothing w 31 31 o.type 51 i0 Tryd.underlying31 hi none 0 0 (Nat.le_refl _) _ src) ?_
      refine h _ _ ?_ ⟨rfl, rfl, rfl, Nat.le_refl _, fun _ _ _ => rfl⟩
      simpa [flatB] using hown
    · refine Lib.wpList_append_run w hgd s x 31 31 ho _ _ hs hx _ _ (run_append_nothing w 31 31 o.type 51 i0 Tryd.underlying31 hi (some ⟨g, 0, none⟩) n c hnc _ src) ?_
      refine h _ _ ?_ ⟨rfl, rfl, rfl, Nat.le_refl _, fun _ _ _ => rfl⟩
      simpa [flatB] using hown
  · exact wpList_append_own w hgd s x 31 ho base 51 i0 (.agg #[.int .i64 0, .int .i64 0, .slice none 0 0]) 3 40 Tryd.underlying31 hi hz0 hz1 hz2 rfl (by decide) v n xs hs hown ⟨g, of, none⟩ l.length cap (flatB l) hx (flatB_length l) (Bs.news hc) (flatB_one l) (by unfold maxLen; omega) (by omega) hbase (fun v' w' h1 h2 _ => h v' w' h1 h2)
end Go.Proofs.YteodlkgbakkjmaaDoor
