/-
  What slices.Clone, copies and copyOf answer, as contracts.
-/
import Derived.Test.YteodlkgbakkjmaaDoorGMem
import Derived.Deep.RegionWith
import Derived.Deep.RegionHeld
import Derived.Lib.SliceRun
namespace Go.Proofs.YteodlkgbakkjmaaDoor
open Go.ChangeShapes Go.WideShapes Go.ChangeAt Go.RowKit
set_option linter.unusedVariables false

set_option maxHeartbeats 2000000 in
theorem cloneA (a : Option Addr) (l : List A) (c : Nat) (w : World) (hT : Ts w a l) (hn : l.length ≤ 1000) :
    Calls Tryd.prog 57 #[.slice a l.length c] w fun e w' => ∃ a' c', e = .returned (.slice a' l.length c') ∧ TsF w.heap.size w' a' l ∧ Below w.heap.size w w' := by
  have q : ∀ (w : World) (a : Option Addr) (n c n' c' : Nat), (binOp .eql 49 (.slice a n c) (.slice none n' c')).run Tryd.prog w = .ok (.bool a.isNone) w := fun w a n c n' c' => Lib.run_eql_slice_nil w _ _ a n c n' c' Tryd.underlying49
  cases a with
  | none =>
    have hl : l = [] := by
      rcases hT with h | ⟨g, o, h, _⟩
      · exact h
      · cases h
    subst hl
    clear hT
    go_enter Tryd.func57, Tryd.ntmps57
    go_wp2
    go_ret
    exact ⟨none, 0, rfl, .inl rfl, Below.refl _ _⟩
  | some p =>
    have HT : Hid (Ts w (some p) l) := hT
    clear hT
    go_enter Tryd.func57, Tryd.ntmps57
    go_wp2_with (at_builtin; refine wpList_app rfl _ _ rfl w.heap.size (.slice (some ⟨w.heap.size, 0, none⟩) 0 0) 0 [] rfl (World.ownsRow_made w #[] 0 (Nat.le_refl _) (Nat.zero_le _) rfl) (some p) c l l.length rfl rfl (HT.out.alloc _) (by omega) (by simp) ?_; intro v' w1 hown hgrow)
    go_wp2
    go_ret
    rw [Nat.zero_add, List.nil_append] at hown
    obtain ⟨a', c', e, _, ht⟩ := own_ts hown
    exact ⟨a', c', by rw [e]; rfl, ht, ((Below.refl _ w).alloc (Nat.le_refl _) _).grown hgrow (by simp) (by intro k hk; simp [Value.ownBlock] at hk; omega)⟩
set_option maxHeartbeats 2000000 in
theorem cloneB (a : Option Addr) (l : List Bk) (c : Nat) (w : World) (hT : Bs w a l) (hn : l.length ≤ 1000) :
    Calls Tryd.prog 56 #[.slice a l.length c] w fun e w' => ∃ v, e = .returned v ∧ w'.ownsRow w.heap.size 51 3 v l.length (flatB l) ∧ Below w.heap.size w w' := by
  have q : ∀ (w : World) (a : Option Addr) (n c n' c' : Nat), (binOp .eql 31 (.slice a n c) (.slice none n' c')).run Tryd.prog w = .ok (.bool a.isNone) w := fun w a n c n' c' => Lib.run_eql_slice_nil w _ _ a n c n' c' Tryd.underlying31
  cases a with
  | none =>
    have hl : l = [] := by
      rcases hT.2 with h | ⟨g, o, h, _⟩
      · exact h
      · cases h
    subst hl
    clear hT
    go_enter Tryd.func56, Tryd.ntmps56
    go_wp2
    go_ret
    exact ⟨_, rfl, World.ownsRow_nil _ _ _ _, Below.refl _ _⟩
  | some p =>
    have HT : Hid (Bs w (some p) l) := hT
    clear hT
    go_enter Tryd.func56, Tryd.ntmps56
    go_wp2_with (at_builtin; refine wpList_appB rfl _ _ rfl w.heap.size (.slice (some ⟨w.heap.size, 0, none⟩) 0 0) 0 [] rfl (World.ownsRow_made w #[] 0 (Nat.le_refl _) (Nat.zero_le _) rfl) (some p) c l l.length rfl rfl (HT.out.alloc _).2 (by omega) (by simp) ?_; intro v' w1 hown hgrow)
    go_wp2
    go_ret
    rw [Nat.zero_add, List.nil_append] at hown
    exact ⟨v', rfl, hown, ((Below.refl _ w).alloc (Nat.le_refl _) _).grown hgrow (by simp) (by intro k hk; simp [Value.ownBlock] at hk; omega)⟩
/-- Buckets of the same content, in blocks that were made. -/
structure BsF (base : Nat) (w : World) (a : Option Addr) (l : List Bk) : Prop where
  ts : ∀ x ∈ l, TsF base w x.a x.l
  bs : l = [] ∨ ∃ g, a = some ⟨g, 0, none⟩ ∧ base ≤ g ∧ g < w.heap.size ∧ ∀ i (h : i < l.length), Cb w g (i * 3) l[i]
theorem BsF.b {base : Nat} {w : World} {a : Option Addr} {l : List Bk} (h : BsF base w a l) : Bs w a l := by
  refine ⟨fun x hx => (h.ts x hx).ts, ?_⟩
  rcases h.bs with h | ⟨g, ha, _, hg, hc⟩
  · exact .inl h
  · exact .inr ⟨g, 0, ha, hg, fun i hi => by rw [Nat.zero_add]; exact hc i hi⟩
theorem TsF.new {base : Nat} {w : World} {a : Option Addr} {l : List A} (h : TsF base w a l) {b : Nat} (hb : InT a l b) : base ≤ b := by
  obtain ⟨hn, o, rfl⟩ := hb
  rcases h with h | ⟨g, ha, h0, _⟩
  · exact absurd h hn
  · cases ha; exact h0
theorem BsF.new {base : Nat} {w : World} {a : Option Addr} {l : List Bk} (h : BsF base w a l) {b : Nat} (hb : InB a l b) : base ≤ b := by
  rcases hb with ⟨hn, o, rfl⟩ | ⟨x, hx, hb⟩
  · rcases h.bs with h | ⟨g, ha, h0, _⟩
    · exact absurd h hn
    · cases ha; exact h0
  · exact (h.ts x hx).new hb
theorem TsF.mono {base base' : Nat} {w w' : World} {a : Option Addr} {l : List A} (h : TsF base w a l) (hb : base' ≤ base) (hz : w.heap.size ≤ w'.heap.size) (g : ∀ b, base ≤ b → b < w.heap.size → w'.heap[b]? = w.heap[b]?) : TsF base' w' a l := by
  rcases h with h | ⟨b, ha, h0, hb', hc⟩
  · exact .inl h
  · exact .inr ⟨b, ha, by omega, by omega, fun i hi => (hc i hi).block (g b h0 hb')⟩
theorem BsF.mono {base base' : Nat} {w w' : World} {a : Option Addr} {l : List Bk} (h : BsF base w a l) (hb : base' ≤ base) (hz : w.heap.size ≤ w'.heap.size) (g : ∀ b, base ≤ b → b < w.heap.size → w'.heap[b]? = w.heap[b]?) : BsF base' w' a l := by
  refine ⟨fun x hx => (h.ts x hx).mono hb hz g, ?_⟩
  rcases h.bs with h | ⟨b, ha, h0, hb', hc⟩
  · exact .inl h
  · exact .inr ⟨b, ha, by omega, by omega, fun i hi => (hc i hi).block (g b h0 hb')⟩
/-- A round of copies: the first q buckets have actions of their own. -/
structure CpI (w0 : World) (g cap : Nat) (l : List Bk) (q : Nat) (wr : World) (r : List Bk) : Prop where
  len : r.length = l.length
  row : wr.ownsRow w0.heap.size 51 3 (.slice (some ⟨g, 0, none⟩) l.length cap) l.length (flatB r)
  done : ∀ i (h : i < r.length), i < q → TsF w0.heap.size wr r[i].a r[i].l ∧ ¬ InT r[i].a r[i].l g
  same : r.map Bk.b3 = l.map Bk.b3
  left : ∀ i (h : i < r.length) (h2 : i < l.length), q ≤ i → r[i] = l[i]
  bel : Below w0.heap.size w0 wr
theorem b3_at {r l : List Bk} (h : r.map Bk.b3 = l.map Bk.b3) (i : Nat) (hr : i < r.length) (hl : i < l.length) : r[i].b3 = l[i].b3 := by
  have e := congrArg (fun x => x[i]?) h
  simpa [hr, hl] using e
theorem CpI.step {w0 wr w1 : World} {g cap : Nat} {l r : List Bk} {q : Nat} (h : CpI w0 g cap l q wr r) (hq : q < r.length) (a' : Option Addr) (c' : Nat) (ht : TsF wr.heap.size w1 a' r[q].l) (g1 : Below wr.heap.size wr w1) :
    CpI w0 g cap l (q + 1) (w1.setCell ⟨g, q * 3 + 2, none⟩ (.slice a' r[q].l.length c')) (r.set q { r[q] with a := a', c := c' }) := by
  have hg := h.row.lt g rfl
  have r1 := own_below h.row g1
  obtain ⟨r2, gr⟩ := r1.stored (q * 3 + 2) (.slice a' r[q].l.length c')
  rw [flatB_set r q hq] at r2
  have hz : wr.heap.size ≤ (w1.setCell ⟨g, q * 3 + 2, none⟩ (.slice a' r[q].l.length c')).heap.size := Nat.le_trans g1.size gr.size
  refine ⟨by simp [h.len], r2, ?_, ?_, ?_, ?_⟩
  · intro i hi hlt
    have hi' : i < r.length := by simpa using hi
    by_cases e : i = q
    · subst e
      simp only [List.getElem_set_self]
      refine ⟨?_, ?_⟩
      · rcases ht with ht | ⟨b, ha, h0, hb, hc⟩
        · exact .inl ht
        · refine .inr ⟨b, ha, by have := h.bel.size; omega, Nat.lt_of_lt_of_le hb gr.size, fun j hj => (hc j hj).block (gr.block b hb ?_)⟩
          intro e2
          cases e2
          omega
      · intro hin
        have hb0 := ht.new hin
        omega
    · have hlt' : i < q := by omega
      rw [List.getElem_set_ne (Ne.symm e)]
      obtain ⟨d1, d2⟩ := h.done i hi' hlt'
      refine ⟨?_, d2⟩
      rcases d1 with d1 | ⟨b, ha, h0, hb, hc⟩
      · exact .inl d1
      · by_cases hne : r[i].l = []
        · exact .inl hne
        · refine .inr ⟨b, ha, h0, Nat.lt_of_lt_of_le hb hz, fun j hj => ((hc j hj).below hb g1).block (gr.block b (Nat.lt_of_lt_of_le hb g1.size) ?_)⟩
          intro e2
          cases e2
          exact d2 ⟨hne, 0, ha⟩
  · rw [List.map_set, ← h.same]
    apply List.ext_getElem?
    intro j
    by_cases e : q = j
    · subst e
      simp [hq, Bk.b3]
    · simp [e]
  · intro i hi h2 hle
    have hi' : i < r.length := by simpa using hi
    rw [List.getElem_set_ne (by omega)]
    exact h.left i hi' h2 (by omega)
  · exact (h.bel.trans (g1.mono h.bel.size)).grown gr (Nat.le_trans h.bel.size g1.size) (by intro k hk; cases hk; exact hg.1)
theorem CpI.end_ {w0 wr : World} {g cap : Nat} {l r : List Bk} {q : Nat} (h : CpI w0 g cap l q wr r) (hq : l.length ≤ q) : BsF w0.heap.size wr (some ⟨g, 0, none⟩) r := by
  refine ⟨?_, ?_⟩
  · intro x hx
    obtain ⟨i, hi, rfl⟩ := List.getElem_of_mem hx
    exact (h.done i hi (by have := h.len; omega)).1
  · have hg := h.row.lt g rfl
    exact .inr ⟨g, rfl, hg.1, hg.2, fun i hi => rowB_cells (by rw [h.len]) h.row i hi⟩
end Go.Proofs.YteodlkgbakkjmaaDoor
