/-
  What is left of a cube, handed on cube by cube: what the walk of without keeps.
-/
import Derived.Test.YtmobmpghpdaddaaLen
namespace Go.Proofs.Ytmobmpghpdaddaa
open Go.ChangeShapes Go.WideShapes Go.ChangeAt Go.RowKit
set_option linter.unusedVariables false

/-- Grown; what is beside the blocks S is as it was. -/
structure Chg (S : Nat → Prop) (w w' : World) : Prop where
  os : w'.os = w.os
  tape : w'.tape = w.tape
  output : w'.output = w.output
  size : w.heap.size ≤ w'.heap.size
  block : ∀ k, k < w.heap.size → ¬ S k → w'.heap[k]? = w.heap[k]?
theorem Chg.refl (S : Nat → Prop) (w : World) : Chg S w w := ⟨rfl, rfl, rfl, Nat.le_refl _, fun _ _ _ => rfl⟩
theorem Chg.of {S : Nat → Prop} {w w' : World} (h : Below w.heap.size w w') : Chg S w w' := ⟨h.os, h.tape, h.output, h.size, fun k hk _ => h.block k hk⟩
theorem Chg.trans {S T : Nat → Prop} {a b c : World} (h : Chg S a b) (g : Chg T b c) (hT : ∀ j, j < a.heap.size → T j → S j) : Chg S a c :=
  ⟨g.os.trans h.os, g.tape.trans h.tape, g.output.trans h.output, Nat.le_trans h.size g.size, fun k hk hn => (g.block k (Nat.lt_of_lt_of_le hk h.size) (fun ht => hn (hT k hk ht))).trans (h.block k hk hn)⟩
theorem Chg.below {S : Nat → Prop} {w w' : World} (h : Chg S w w') {B : Nat} (hB : B ≤ w.heap.size) (hS : ∀ j, S j → B ≤ j) : Below B w w' :=
  ⟨h.os, h.tape, h.output, h.size, fun k hk => h.block k (by omega) (fun hs => by have := hS k hs; omega)⟩
/-- What a cube is handed to: the cubes so far, in blocks S. -/
structure HandI (N : FuncId) (g : Nat) (I : List K → (Nat → Prop) → World → Prop) : Prop where
  lt : ∀ {l S w}, I l S w → ∀ j, S j → j < w.heap.size
  oth : ∀ {l S w w'}, I l S w → Chg (fun j => ¬ S j) w w' → I l S w'
  hand : ∀ {l S w} (k : K), I l S w → l.length ≤ 100000000 → Calls Try.prog N #[.agg (cubA k), .pointer (some ⟨g, 0, none⟩)] w fun e w' => e = .returned (.tuple #[]) ∧ ∃ S', I (l ++ [k]) S' w' ∧ (∀ j, S' j → S j ∨ w.heap.size ≤ j) ∧ Chg S w w'
/-- Between two steps of without. -/
structure WoI (I : List K → (Nat → Prop) → World → Prop) (S : Nat → Prop) (w : World) (o : K) (l : List K) (c : K) (wr : World) : Prop where
  inv : ∃ S', I l S' wr ∧ (∀ j, S' j → S j ∨ w.heap.size ≤ j) ∧ ¬ S' w.heap.size ∧ ¬ S' (w.heap.size + 1)
  cur : C20 wr w.heap.size 0 c
  wri : wr.there w.heap.size 0 20
  oth : C20 wr (w.heap.size + 1) 0 o
  chg : Chg S w wr
  siz : w.heap.size + 2 ≤ wr.heap.size
section
variable {N : FuncId} {g : Nat} {I : List K → (Nat → Prop) → World → Prop} {S : Nat → Prop} {w wr V : World} {o c : K} {l : List K}
theorem WoI.grow (hI : HandI N g I) (h : WoI I S w o l c wr) (gV : Below wr.heap.size wr V) : WoI I S w o l c V := by
  obtain ⟨S', h1, h2, h3, h4⟩ := h.inv
  have hs := h.siz
  exact ⟨⟨S', hI.oth h1 (Chg.of gV), h2, h3, h4⟩, h.cur.below (by omega) gV, there_block h.wri (gV.block _ (by omega)), h.oth.below (by omega) gV, h.chg.trans (T := fun _ => False) (Chg.of gV) (fun _ _ h => h.elim), Nat.le_trans hs gV.size⟩
theorem setCell_block (w : World) (b o : Nat) (v : Value) {j : Nat} (h : j ≠ b) : (w.setCell ⟨b, o, none⟩ v).heap[j]? = w.heap[j]? := Below.heap_setCell _ _ _ _ h
theorem chg_set (w : World) (b o : Nat) (v : Value) : Chg (fun j => j = b) w (w.setCell ⟨b, o, none⟩ v) := ⟨rfl, rfl, rfl, by simp [World.setCell], fun k _ hk => setCell_block w b o v hk⟩
theorem WoI.set (hI : HandI N g I) (h : WoI I S w o l c wr) {c' : K} {p : Nat} {x : Value} (hc : C20 (wr.setCell ⟨w.heap.size, p, none⟩ x) w.heap.size 0 c') : WoI I S w o l c' (wr.setCell ⟨w.heap.size, p, none⟩ x) := by
  obtain ⟨S', h1, h2, h3, h4⟩ := h.inv
  have hs := h.siz
  have hk := chg_set wr w.heap.size p x
  refine ⟨⟨S', hI.oth h1 ⟨rfl, rfl, rfl, hk.size, fun k hk' hn => hk.block k hk' (fun e => ?_)⟩, h2, h3, h4⟩, hc, there_set h.wri _ _, h.oth.block (setCell_block _ _ _ _ (by omega)), h.chg.trans hk (fun j hj e => by omega), by rw [show (wr.setCell ⟨w.heap.size, p, none⟩ x).heap.size = wr.heap.size by simp [World.setCell]]; exact hs⟩
  subst e
  exact hn h3
theorem WoI.set_m (hI : HandI N g I) (h : WoI I S w o l c wr) {f : Nat} (hf : f < 10) (x : B64) : WoI I S w o l ⟨upd c.m f x, c.v⟩ (wr.setCell ⟨w.heap.size, f, none⟩ (cv x)) := by
  have h1 := h.cur.1.set hf x
  rw [Nat.zero_add] at h1
  exact h.set hI ⟨h1, h.cur.2.beside (.inr (.inl (by omega))) _⟩
theorem WoI.set_v (hI : HandI N g I) (h : WoI I S w o l c wr) {f : Nat} (hf : f < 10) (x : B64) : WoI I S w o l ⟨c.m, upd c.v f x⟩ (wr.setCell ⟨w.heap.size, 10 + f, none⟩ (cv x)) := by
  have h1 := h.cur.2.set hf x
  rw [show 0 + 10 + f = 10 + f by omega] at h1
  exact h.set hI ⟨h.cur.1.beside (.inr (.inr (by omega))) _, h1⟩
theorem WoI.drew (hI : HandI N g I) (h : WoI I S w o l c wr) : WoI I S w o l c wr.drew := h.grow hI ((Below.refl _ _).drew)
theorem WoI.hand (hI : HandI N g I) (h : WoI I S w o l c wr) (k : K) (hl : l.length ≤ 100000000) : Calls Try.prog N #[.agg (cubA k), .pointer (some ⟨g, 0, none⟩)] wr fun e w' => e = .returned (.tuple #[]) ∧ WoI I S w o (l ++ [k]) c w' := by
  obtain ⟨S', h1, h2, h3, h4⟩ := h.inv
  have hs := h.siz
  refine (hI.hand k h1 hl).mono ?_
  rintro e w' ⟨he, S2, k1, k2, k3⟩
  refine ⟨he, ⟨S2, k1, fun j hj => ?_, fun hj => ?_, fun hj => ?_⟩, h.cur.block (k3.block _ (by omega) h3), there_block h.wri (k3.block _ (by omega) h3), h.oth.block (k3.block _ (by omega) h4), h.chg.trans k3 (fun j hj hS => ?_), Nat.le_trans hs k3.size⟩
  · rcases k2 j hj with h5 | h5
    · exact h2 j h5
    · right; omega
  · rcases k2 _ hj with h5 | h5
    · exact h3 h5
    · omega
  · rcases k2 _ hj with h5 | h5
    · exact h4 h5
    · omega
  · rcases h2 j hS with h5 | h5
    · exact h5
    · omega
theorem WoI.new (hI : HandI N g I) (h : I l S w) (c o : K) : WoI I S w o l c ((w.alloc (.cells (cubA c) 70)).alloc (.cells (cubA o) 70)) := by
  obtain ⟨U, hU, h1, h2, hz, gU⟩ := two_cubs c o w
  rw [hU]
  refine ⟨⟨S, hI.oth h (Chg.of gU), fun j hj => .inl hj, fun hj => ?_, fun hj => ?_⟩, h1, ?_, h2, Chg.of gU, by omega⟩
  · have := hI.lt h _ hj; omega
  · have := hI.lt h _ hj; omega
  · rw [← hU]; exact there_block (there_new w _ 70 20 (cubA_size _)) (heap_alloc_old _ _ (by simp))
/-- The end of it. -/
theorem WoI.fin (h : WoI I S w o l c wr) : ∃ S', I l S' wr ∧ (∀ j, S' j → S j ∨ w.heap.size ≤ j) ∧ Chg S w wr := by
  obtain ⟨S', h1, h2, h3, h4⟩ := h.inv
  exact ⟨S', h1, h2, h.chg⟩
end
theorem rem_len (a : B64) : ∀ t, (rem a t).length ≤ t
  | 0 => Nat.le_refl _
  | t + 1 => by
    have ih := rem_len a t
    unfold rem
    split
    · rw [List.length_cons]; omega
    · omega
theorem pos_len (c o : K) : ∀ n, (pos c o n).length ≤ n * 64
  | 0 => Nat.le_refl _
  | n + 1 => by
    rw [pos_succ, List.length_append]
    have := pos_len c o n
    have h2 : (posF c o n).length ≤ 64 := by unfold posF; rw [List.length_map]; exact rem_len _ _
    omega
theorem cutR_len (o : K) : ∀ (ps : List (Nat × Nat)) (c : K), (cutR o c ps).length = ps.length
  | [], c => rfl
  | p :: ps, c => by
    show (_ :: cutR o _ ps).length = _
    rw [List.length_cons, cutR_len o ps, List.length_cons]
theorem cutL_len (c o : K) : (cutL c o).length ≤ 640 := by
  unfold cutL
  split
  · rw [cutR_len]; have := pos_len c o 10; omega
  · simp
end Go.Proofs.Ytmobmpghpdaddaa
