/-
  A table that is gone on with call by call: what stays true of it; lists that are left.
-/
import Derived.Test.YteodlkgbakkjmaaDoorLThere
import Derived.Test.YteodlkgbakkjmaaDoorOpen
import Derived.Test.YteodlkgbakkjmaaDoorFew
namespace Go.Proofs.YteodlkgbakkjmaaDoor
open Go.ChangeShapes Go.WideShapes Go.ChangeAt Go.RowKit Go.Maps
set_option linter.unusedVariables false
open scoped Classical

/-- Behind some calls. -/
structure RunI (W : World) (tb mb : Nat) (room : Int) (L : List Gr) (wr : World) : Prop where
  t : Tb wr tb mb room L
  i : Inv room L
  b : Below W.heap.size W wr
  d : Cd wr
theorem RunI.grow {W : World} {tb mb : Nat} {room : Int} {L : List Gr} {wr w2 : World} (h : RunI W tb mb room L wr) (k : Below wr.heap.size wr w2) : RunI W tb mb room L w2 := ⟨h.t.below k, h.i, btr h.b k (Nat.le_refl _), h.d.below k⟩
theorem RunI.turn {W : World} {tb mb : Nat} {room : Int} {L L' : List Gr} {wr w2 : World} (h : RunI W tb mb room L wr) (hmb : W.heap.size ≤ mb) (t : Tb w2 tb mb room L') (i : Inv room L') (k : wr.grownBy w2 (some mb)) (d : Cd w2) : RunI W tb mb room L' w2 :=
  ⟨t, i, h.b.grown k h.b.size (fun j hj => by cases hj; exact hmb), d⟩
theorem RunI.len {W : World} {tb mb : Nat} {room : Int} {L : List Gr} {wr : World} (h : RunI W tb mb room L wr) (hr : room ≤ 64) : L.length ≤ 64 := by have := h.i.ln; omega
theorem gby {w w' : World} (k : Below w.heap.size w w') (row : Option Nat) : w.grownBy w' row := ⟨k.os, k.tape, k.output, k.size, fun i hi _ => k.block i hi⟩
/-- A call of the three. -/
theorem RunI.add {W : World} {tb mb : Nat} {room : Int} {L : List Gr} {wr : World} (h : RunI W tb mb room L wr) (hmb : W.heap.size ≤ mb) (hr : room ≤ 64) (g : Gr) (hg : GIn W g) (hf : fewB g.l = true) : Calls Tryd.prog 12 #[ptr tb, gV g] wr fun e w' => e = .returned (.int .i64 (addE room L g)) ∧ ∃ L', RunI W tb mb room L' w' ∧ ((addE room L g ≠ 0 ∧ L' = L) ∨ (addE room L g = 0 ∧ ∃ g' : Gr, g'.p = g.p ∧ L' = putG g' L ∧ ∀ b, InB g'.a g'.l b → wr.heap.size ≤ b)) ∧ wr.grownBy w' (some mb) := by
  refine (add_any g wr h.t (hg.bs.below h.b) (fewB_sm hf) h.d hg.i0 hg.i1 (h.len hr)).mono ?_
  rintro e w' ⟨he, h1, h2⟩
  refine ⟨he, ?_⟩
  by_cases hz : addE room L g = 0
  · obtain ⟨g', hp, ht, hk, hd, hnw⟩ := h2 hz
    exact ⟨_, h.turn hmb ht (h.i.add hz hp) hk hd, .inr ⟨hz, g', hp, rfl, hnw⟩, hk⟩
  · exact ⟨L, h.grow (h1 hz), .inl ⟨hz, rfl⟩, gby (h1 hz) _⟩
theorem RunI.mod {W : World} {tb mb : Nat} {room : Int} {L : List Gr} {wr : World} (h : RunI W tb mb room L wr) (hmb : W.heap.size ≤ mb) (hr : room ≤ 64) (g : Gr) (hg : GIn W g) (hf : fewB g.l = true) : Calls Tryd.prog 14 #[ptr tb, gV g] wr fun e w' => e = .returned (.int .i64 (modE L g)) ∧ ∃ L', RunI W tb mb room L' w' ∧ ((modE L g ≠ 0 ∧ L' = L) ∨ (modE L g = 0 ∧ ∃ g' : Gr, g'.p = g.p ∧ L' = putG g' L ∧ ∀ b, InB g'.a g'.l b → wr.heap.size ≤ b)) ∧ wr.grownBy w' (some mb) := by
  refine (modify_any g wr h.t (hg.bs.below h.b) (fewB_sm hf) h.d hg.i0 hg.i1 (h.len hr) h.i.cl).mono ?_
  rintro e w' ⟨he, h1, h2⟩
  refine ⟨he, ?_⟩
  by_cases hz : modE L g = 0
  · obtain ⟨g', hp, ht, hk, hd, hnw⟩ := h2 hz
    exact ⟨_, h.turn hmb ht (h.i.mod hz hp) hk hd, .inr ⟨hz, g', hp, rfl, hnw⟩, hk⟩
  · exact ⟨L, h.grow (h1 hz), .inl ⟨hz, rfl⟩, gby (h1 hz) _⟩
theorem RunI.del {W : World} {tb mb : Nat} {room : Int} {L : List Gr} {wr : World} (h : RunI W tb mb room L wr) (hmb : W.heap.size ≤ mb) (g : Gr) (hg : GIn W g) : Calls Tryd.prog 16 #[ptr tb, .int .i64 g.id] wr fun e w' => e = .returned (.int .i64 (delE L g.id)) ∧ ∃ L', RunI W tb mb room L' w' ∧ ((delE L g.id ≠ 0 ∧ L' = L) ∨ (delE L g.id = 0 ∧ L' = delG g.id L)) ∧ wr.grownBy w' (some mb) := by
  refine (delete_any g.id wr h.t h.d hg.i0 hg.i1).mono ?_
  rintro e w' ⟨he, h1, h2⟩
  refine ⟨he, ?_⟩
  by_cases hz : delE L g.id = 0
  · obtain ⟨ht, hk, hd⟩ := h2 hz
    exact ⟨_, h.turn hmb ht (h.i.del hz) hk hd, .inr ⟨hz, rfl⟩, hk⟩
  · exact ⟨L, h.grow (h1 hz), .inl ⟨hz, rfl⟩, gby (h1 hz) _⟩
/-- A row of groups that was made behind world V; what they have lies in V. -/
structure LfI (V : World) (r : List Gr) (v : Value) (S : List Gr) (wr : World) : Prop where
  row : wr.ownsRow V.heap.size 33 3 v S.length (flatG S)
  bel : Below V.heap.size V wr
  sub : ∀ x ∈ S, x ∈ r
theorem LfI.grow {V : World} {r : List Gr} {v : Value} {S : List Gr} {wr w2 : World} (h : LfI V r v S wr) (k : Below wr.heap.size wr w2) : LfI V r v S w2 := ⟨own_below h.row k, h.bel.trans (k.mono h.bel.size), h.sub⟩
theorem LfI.gs {V : World} {r : List Gr} {v : Value} {S : List Gr} {wr : World} (h : LfI V r v S wr) (hr : ∀ x ∈ r, Bs V x.a x.l ∧ Sm x.l) : ∃ a c, v = .slice a S.length c ∧ S.length ≤ c ∧ Gs wr a S := by
  have hb : ∀ x ∈ S, Bs wr x.a x.l := fun x hx => (hr x (h.sub x hx)).1.below h.bel
  have hs : ∀ x ∈ S, Sm x.l := fun x hx => (hr x (h.sub x hx)).2
  rcases h.row.2 with ⟨rfl, h0⟩ | ⟨g, cap, cur, rfl, hbg, hbb, hnc, hcm, _⟩
  · have e : S = [] := List.length_eq_zero_iff.1 h0
    subst e
    exact ⟨none, 0, rfl, Nat.le_refl _, .inl rfl, hb, hs⟩
  · exact ⟨_, _, rfl, hnc, .inr ⟨g, 0, rfl, (Array.getElem?_eq_some_iff.1 hbb).1, fun i hi => by rw [Nat.zero_add]; exact rowG_cells rfl h.row i hi⟩, hb, hs⟩
theorem newsG {w : World} {g o : Nat} {l : List Gr} (h : ∀ i (h : i < l.length), Cg w g (o + i * 3) l[i]) : ∀ j u, (flatG l)[j]? = some u → w.cell? ((⟨g, o, none⟩ : Addr).add j) = some u := by
  intro j u hj
  obtain ⟨i, hi, hh⟩ := flatG_cell l j u hj
  obtain ⟨c0, c1, c2⟩ := h i hi
  rw [addP]
  rcases hh with ⟨rfl, rfl⟩ | ⟨rfl, rfl⟩ | ⟨rfl, rfl⟩
  · exact c0
  · rw [← Nat.add_assoc]; exact c1
  · rw [← Nat.add_assoc]; exact c2
/-- Append of groups, one by one or many, or none. -/
theorem wpList_appGs {w : World} {ops : Array Oper} {rest : List Oper} {o : Oper} {a : Act} {Q : Exit → Act → World → Prop} (hgd : o.guard = none) (s x : Operand)
    (ho : o.op = .call { callee := .builtin .append, args := #[s, x], argTypes := #[43, 43] }) (V : World) (r : List Gr) (v : Value) (S : List Gr) (hs : a.eval s = v) (hI : LfI V r v S w)
    (ad : Option Addr) (cap : Nat) (l : List Gr) (m : Nat) (hm : m = l.length) (hx : a.eval x = .slice ad m cap) (hT : l = [] ∨ ∃ g o, ad = some ⟨g, o, none⟩ ∧ g < w.heap.size ∧ ∀ i (h : i < l.length), Cg w g (o + i * 3) l[i]) (hn : S.length + l.length ≤ 1000) (hsub : ∀ y ∈ l, y ∈ r)
    (h : ∀ v' w', LfI V r v' (S ++ l) w' → wpList Tryd.prog ops Q rest (a.put o.dst v') w') : wpList Tryd.prog ops Q (o :: rest) a w := by
  obtain ⟨i0, hi, hz0, hz1, hz2⟩ := info_parts infoGr
  have hsb : ∀ y ∈ S ++ l, y ∈ r := fun y hy => by
    rcases List.mem_append.1 hy with hy | hy
    · exact hI.sub y hy
    · exact hsub y hy
  subst hm
  rcases hT with rfl | ⟨g, of, rfl, _, hc⟩
  · have src : Src Tryd.prog i0.size 43 (.slice ad 0 cap) 0 [] w := by
      cases ad with
      | none => exact Src.ofNil w Tryd.underlying43 cap
      | some q => exact Src.ofSlice w Tryd.underlying43 q 0 cap [] (by simp) (fun j u hj => by simp at hj) (fun u hu => by simp at hu)
    have hI' : LfI V r v (S ++ []) w := by rw [List.append_nil]; exact hI
    rcases hI.row.2 with ⟨rfl, h0⟩ | ⟨g, c, cur, rfl, hbg, hhg, hnc, hcm, hcs, htk⟩
    · refine Lib.wpList_append_run w hgd s x 43 43 ho _ _ hs hx _ _ (run_append_nothing w 43 43 o.type 33 i0 Tryd.underlying43 hi none 0 0 (Nat.le_refl _) _ src) ?_
      exact h _ _ hI'
    · refine Lib.wpList_append_run w hgd s x 43 43 ho _ _ hs hx _ _ (run_append_nothing w 43 43 o.type 33 i0 Tryd.underlying43 hi (some ⟨g, 0, none⟩) S.length c hnc _ src) ?_
      exact h _ _ hI'
  · exact wpList_append_own w hgd s x 43 ho V.heap.size 33 i0 (.agg #[.int .i64 0, .int .i64 0, .slice none 0 0]) 3 40 Tryd.underlying43 hi hz0 hz1 hz2 rfl (by decide) v S.length (flatG S) hs hI.row ⟨g, of, none⟩ l.length cap (flatG l) hx (flatG_length l) (newsG hc) (flatG_one l) (by unfold maxLen; omega) (by omega) hI.bel.size (fun v' w' h1 h2 _ => h v' w' ⟨by rw [List.length_append, flatG_append]; exact h1, hI.bel.grown h2 hI.bel.size (fun j hj => (hI.row.lt j hj).1), hsb⟩)
theorem asks_at {w : World} {a : Option Addr} {l : List Ask} (h : AsksAt w a l) {W' : World} (k : Below w.heap.size w W') {q : Nat} (hq : q < l.length) : ∃ g o, a = some ⟨g, o, none⟩ ∧ g < W'.heap.size ∧ W'.cell? ⟨g, o + q * 4, none⟩ = some (.int .i64 l[q].ask) ∧ W'.cell? ⟨g, o + q * 4 + 1, none⟩ = some (.int .i64 l[q].g.id) ∧ W'.cell? ⟨g, o + q * 4 + 1 + 1, none⟩ = some (.int .i64 l[q].g.kd) ∧ W'.cell? ⟨g, o + q * 4 + 1 + 2, none⟩ = some (.slice l[q].g.a l[q].g.l.length l[q].g.c) := by
  rcases h with rfl | ⟨g, o, ha, hg, hc⟩
  · cases hq
  · obtain ⟨c0, c1, c2, c3⟩ := hc q hq
    exact ⟨g, o, ha, Nat.lt_of_lt_of_le hg k.size, (k.cell (p := ⟨g, _, none⟩) hg).trans c0, (k.cell (p := ⟨g, _, none⟩) hg).trans c1, (k.cell (p := ⟨g, _, none⟩) hg).trans c2, (k.cell (p := ⟨g, _, none⟩) hg).trans c3⟩
theorem runI_new (W : World) {w1 : World} {room : Int} (t : Tb w1 (W.heap.size + 1) W.heap.size room []) (b : Below W.heap.size W w1) (d : Cd W) (hr : 1 ≤ room) : RunI W (W.heap.size + 1) W.heap.size room [] w1 :=
  ⟨t, ⟨(by intro h hh; cases hh), ⟨fun _ => 0, (by intro g hg; cases hg)⟩, (by simp; omega)⟩, b, d.below b⟩
theorem thR_of {W : World} {tb mb : Nat} {room : Int} {L r : List Gr} {wr : World} (h : RunI W tb mb room L wr) (hp : r.map Gr.p = L.map Gr.p) : ThR L r ∧ ∀ x ∈ r, rightE x.p = 0 := by
  have hx : ∀ x ∈ r, ∃ q ∈ L, q.p = x.p := fun x hx => by
    have hm : x.p ∈ L.map Gr.p := by rw [← hp]; exact List.mem_map.2 ⟨x, hx, rfl⟩
    exact List.mem_map.1 hm
  have hok : ∀ x ∈ r, rightE x.p = 0 := fun x hx' => by
    obtain ⟨q, hq, e⟩ := hx x hx'
    rw [← e]
    exact (h.t.grp q hq).ok
  refine ⟨fun x hx' b hb a ha => ?_, hok⟩
  obtain ⟨q, hq, e⟩ := hx x hx'
  have h1 := right_val0 (acts_at (rightE_acts (hok x hx')) hb ha)
  refine ⟨h1.1, h1.2, fun h2 => h.i.cl q hq _ ?_⟩
  rw [show rawL (q.l.map Bk.b3) = rawL (x.l.map Bk.b3) from rawG_p e]
  exact mem_rawL.2 ⟨b.b3, List.mem_map.2 ⟨b, hb, rfl⟩, a, ha, h2, rfl⟩
end Go.Proofs.YteodlkgbakkjmaaDoor
