/-
  The two functions that cubes are handed to.
-/
import Derived.Test.YtmobmpghpdaddaaWoW
import Derived.Great.BuildSlice
namespace Go.Proofs.Ytmobmpghpdaddaa
open Go.ChangeShapes Go.WideShapes Go.ChangeAt Go.RowKit
set_option linter.unusedVariables false

theorem own_chg {α : Type} {k : α → List Value} {s : Nat} {e : TypeId} {base : Nat} {w w' : World} {v : Value} {zs : List α} (h : Own e k s base w v zs) (g : ∀ j, v.ownBlock = some j → w'.heap[j]? = w.heap[j]?) : Own e k s base w' v zs := by
  refine ⟨h.1, ?_⟩
  rcases h.2 with h1 | ⟨b, cap, cur, h1, h2, h3, h4⟩
  · exact .inl h1
  · subst h1
    exact .inr ⟨b, cap, cur, rfl, h2, (g b rfl).trans h3, h4⟩
theorem own_lt {α : Type} {k : α → List Value} {s : Nat} {e : TypeId} {base : Nat} {w : World} {v : Value} {zs : List α} (h : Own e k s base w v zs) {j : Nat} (hj : v.ownBlock = some j) : base ≤ j ∧ j < w.heap.size := by
  rcases h.2 with ⟨h1, _⟩ | ⟨b, cap, cur, h1, h2, h3, h4⟩
  · subst h1; cases hj
  · subst h1
    cases hj
    exact ⟨h2, (Array.getElem?_eq_some_iff.1 h3).1⟩
theorem chg_cell {S : Nat → Prop} {w w' : World} (h : Chg (fun j => ¬ S j) w w') {b : Nat} (hb : b < w.heap.size) (hS : S b) : w'.heap[b]? = w.heap[b]? := h.block b hb (fun hn => hn hS)
theorem infoC : (Try.prog.info? 70).map (fun i => (i.zero, i.size, i.bytes)) = some (some (.agg (Array.replicate 20 (.int .u64 0))), 20, 160) := by kernel_rfl
theorem fill_cub (k : K) : Instr.fill (fun i => some (i * 20, 20)) ((Array.range (1 * 20)).map ((Value.agg (Array.replicate 20 (.int .u64 0))).cells[· % (Value.agg (Array.replicate 20 (.int .u64 0))).cells.size]!)) [(0, .agg (cubA k))] = some (cubA k) := by kernel_rfl
/-- A slice of one cube. -/
theorem wpList_oneC {ops : Array Oper} {rest : List Oper} {o : Oper} {a : Go.Act} {w : World} {Q : Exit → Go.Act → World → Prop} (hg : o.guard = none) (x : Operand) (ho : o.op = .buildSlice 84 1 #[(0, x)]) (k : K) (hx : a.eval x = .agg (cubA k))
    (h : wpList Try.prog ops Q rest (a.put o.dst (.slice (some ⟨w.heap.size, 0, none⟩) 1 1)) (w.alloc (.cells (cubA k) 70))) : wpList Try.prog ops Q (o :: rest) a w := by
  obtain ⟨i0, hi, hz0, hz1, hz2⟩ := info_parts infoC
  refine wpList_buildSlice hg 84 70 1 #[(0, x)] ho (cubA k) i0 _ Try.underlying84 hi hz0 (by rw [hz1]; decide) (by rw [hz1]; decide) ?_ h
  rw [hz1]
  simp only [List.map_toArray, List.map_cons, List.map_nil, hx]
  exact fill_cub k
/-- leftOf's cubes so far: in a row of its own, whose slice lies in block g. -/
structure LfI (base g : Nat) (l : List K) (S : Nat → Prop) (w : World) : Prop where
  ex : ∃ v, w.cell? ⟨g, 0, none⟩ = some v ∧ OwnC base w v l ∧ v.ownBlock ≠ some g ∧ (∀ j, S j ↔ j = g ∨ v.ownBlock = some j)
  fz : w.frozen? ⟨g, 0, none⟩ = false
  lt : g < w.heap.size
  bs : base ≤ w.heap.size
theorem cs_new {α : Type} {k : α → List Value} {s : Nat} (w : World) (x : α) (t : TypeId) : Cs k s (w.alloc (.cells (k x).toArray t)) w.heap.size 0 [x] := by
  intro j hj i hi
  obtain rfl : j = 0 := by simp at hj; omega
  have h : (w.alloc (.cells (k x).toArray t)).heap[w.heap.size]? = some (.cells (k x).toArray t (0, 0)) := heap_alloc_new w _
  rw [cell_of_row _ _ _ _ _ _ h]
  simp
theorem chg_grow {w X w' : World} {r : Option Nat} (h : Below w.heap.size w X) (g : X.grownBy w' r) : Chg (fun j => r = some j) w w' :=
  ⟨g.os.trans h.os, g.tape.trans h.tape, g.output.trans h.output, Nat.le_trans h.size g.size, fun k hk hn => (g.block k (Nat.lt_of_lt_of_le hk h.size) (fun e => hn e.symm)).trans (h.block k hk)⟩
set_option maxRecDepth 20000 in
set_option maxHeartbeats 4000000 in
theorem hand_left (base g : Nat) : HandI 73 g (LfI base g) := by
  refine ⟨fun h j hj => ?_, fun {l S w w'} h hc => ?_, fun {l S w} k h hl => ?_⟩
  · obtain ⟨v, h1, h2, h3, h4⟩ := h.ex
    rcases (h4 j).1 hj with rfl | hj
    · exact h.lt
    · exact (own_lt h2 hj).2
  · obtain ⟨v, h1, h2, h3, h4⟩ := h.ex
    have e := chg_cell hc h.lt ((h4 g).2 (.inl rfl))
    refine ⟨⟨v, (World.cell?_of_block (w := w) e).trans h1, own_chg h2 (fun j hj => chg_cell hc (own_lt h2 hj).2 ((h4 j).2 (.inr hj))), h3, h4⟩, (World.frozen?_of_block (w := w) e).trans h.fz, Nat.lt_of_lt_of_le h.lt hc.size, Nat.le_trans h.bs hc.size⟩
  · obtain ⟨v, h1, h2, h3, h4⟩ := h.ex
    obtain ⟨a, cap, hv⟩ := own_form h2
    -- the box and the new one's own slice
    have c1 := C20.new w k 70
    obtain ⟨X, hX⟩ : ∃ X, w.alloc (.cells (cubA k) 70) = X := ⟨_, rfl⟩
    have gX : Below w.heap.size w X := by rw [← hX]; go_grown
    have zX : X.heap.size = w.heap.size + 1 := by rw [← hX]; simp
    rw [hX] at c1
    obtain ⟨Y, hY⟩ : ∃ Y, X.alloc (.cells (cubA k) 70) = Y := ⟨_, rfl⟩
    have cY : Cs cubL 20 Y X.heap.size 0 [k] := by rw [← hY]; exact cs_new X k 70
    have gY : Below X.heap.size X Y := by rw [← hY]; go_grown
    have zY : Y.heap.size = X.heap.size + 1 := by rw [← hY]; simp
    have hXg : X.cell? ⟨g, 0, none⟩ = some v := (gX.cell (p := ⟨g, 0, none⟩) h.lt).trans h1
    have gwY : Below w.heap.size w Y := btr gX gY (by omega)
    have hYo : OwnC base Y v l := own_below h2 gwY
    have HH : Hid (∀ v' w', OwnC base w' v' (l ++ [k]) → Y.grownBy w' v.ownBlock → (v'.ownBlock = v.ownBlock ∨ v'.ownBlock = some Y.heap.size) → w'.frozen? ⟨g, 0, none⟩ = false ∧ w'.cell? ⟨g, 0, none⟩ = some v ∧ ∃ S', LfI base g (l ++ [k]) S' (w'.setCell ⟨g, 0, none⟩ v') ∧ (∀ j, S' j → S j ∨ w.heap.size ≤ j) ∧ Chg S w (w'.setCell ⟨g, 0, none⟩ v')) := (show ∀ v' w', _ from fun v' w' k1 k2 k3 => by
      have hlt := h.lt
      have eg : w'.heap[g]? = w.heap[g]? := (k2.block g (by omega) (fun e => h3 e.symm)).trans (gwY.block g hlt)
      have hw' := k2.size
      have hc := chg_grow gwY k2
      have ng : v'.ownBlock ≠ some g := by
        rcases k3 with e | e
        · rw [e]; exact h3
        · rw [e]; intro e2; have := Option.some.inj e2; omega
      have cg : w'.cell? ⟨g, 0, none⟩ = some v := (World.cell?_of_block (w := w) eg).trans h1
      have z : (w'.setCell ⟨g, 0, none⟩ v').heap.size = w'.heap.size := by simp [World.setCell]
      refine ⟨(World.frozen?_of_block (w := w) eg).trans h.fz, cg, fun j => j = g ∨ v'.ownBlock = some j, ⟨⟨v', World.cell?_setCell_same _ _ _ cg, own_chg k1 (fun j hj => setCell_block _ _ _ _ (fun e => by subst e; exact ng hj)), ng, fun j => Iff.rfl⟩, by have := (World.frozen?_of_block (w := w) eg).trans h.fz; simpa using this, by omega, by have := h.bs; omega⟩, fun j hj => ?_, ?_⟩
      · rcases hj with rfl | hj
        · exact .inl ((h4 j).2 (.inl rfl))
        · rcases k3 with e | e
          · exact .inl ((h4 j).2 (.inr (by rw [← e]; exact hj)))
          · rw [hj] at e; have := Option.some.inj e; right; omega
      · refine Chg.trans (T := fun j => j = g) ⟨hc.os, hc.tape, hc.output, hc.size, fun j hj hn => hc.block j hj (fun e => hn ((h4 j).2 (.inr e)))⟩ (chg_set w' g 0 v') (fun j _ e => (h4 j).2 (.inl e)))
    have HC : Hid (C20 X w.heap.size 0 k) := c1
    have HY : Hid (Cs cubL 20 Y X.heap.size 0 [k] ∧ OwnC base Y v l ∧ base ≤ Y.heap.size) := ⟨cY, hYo, by have := h.bs; omega⟩
    have HL : Hid (l.length ≤ 100000000) := hl
    have hcA : (cubA k).size = 20 := cubA_size k
    subst hv
    clear h1 h2 h3 h4 h gX gY gwY c1 cY hYo zY hl
    go_enter Try.func73, Try.ntmps73
    go_wp2_with (first
      | (refine load_cub rfl (.tmp 2) rfl w.heap.size 0 rfl k HC.out ?_)
      | (refine wpList_oneC rfl (.tmp 4) rfl k rfl ?_; rw [hY]; refine wpList_appK kdC ktC rfl (.tmp 3) (.tmp 5) rfl base (.slice a l.length cap) l rfl HY.out.2.1 X.heap.size 0 1 1 [k] rfl rfl HY.out.1 (by have := HL.out; simp; omega) HY.out.2.2 ?_; intro v' w2 ho2 hg2 hat; have HE := HH.out v' w2 ho2 hg2 hat; (obtain ⟨av, cv', hv'⟩ := own_form ho2); subst hv'; (obtain ⟨e1, e2, e3⟩ := HE); have HF : Hid (∃ S', LfI base g (l ++ [k]) S' (w2.setCell ⟨g, 0, none⟩ (.slice av (l ++ [k]).length cv')) ∧ (∀ j, S' j → S j ∨ w.heap.size ≤ j) ∧ Chg S w (w2.setCell ⟨g, 0, none⟩ (.slice av (l ++ [k]).length cv'))) := e3; clear e3 ho2 hg2 hat HH))
    have e : (l ++ [k]).length = l.length + 1 := by simp
    rw [e] at HF
    first | refine bodyPost_end (results_none rfl _ _ _) rfl ?_ | refine bodyPost_ret (results_none rfl _ _ _) rfl ?_
    exact ⟨rfl, HF.out⟩
end Go.Proofs.Ytmobmpghpdaddaa
