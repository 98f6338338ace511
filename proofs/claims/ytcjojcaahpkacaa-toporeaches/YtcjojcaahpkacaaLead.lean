/-
  A switch's port, or a host, is led to an end.
-/
import Derived.Test.YtcjojcaahpkacaaMay
namespace Go.Proofs.Ytcjojcaahpkacaa
open Go.ChangeShapes Go.WideShapes Go.ChangeAt Go.RowKit
set_option linter.unusedVariables false

/-- Three cells of block b have turned, from o on; what is new lies behind. -/
structure Put3 (w w' : World) (b o : Nat) (x : Int × Int × Int) : Prop where
  os : w'.os = w.os
  tape : w'.tape = w.tape
  output : w'.output = w.output
  size : w.heap.size ≤ w'.heap.size
  block : ∀ k, k < w.heap.size → k ≠ b → w'.heap[k]? = w.heap[k]?
  here : E3 w' b o x
  oth : ∀ j, (j < o ∨ o + 3 ≤ j) → w'.cell? ⟨b, j, none⟩ = w.cell? ⟨b, j, none⟩
  fz : ∀ j, w'.frozen? ⟨b, j, none⟩ = w.frozen? ⟨b, j, none⟩
theorem Put3.more {w w' w'' : World} {b o : Nat} {x : Int × Int × Int} (h : Put3 w w' b o x) (hb : b < w.heap.size) (g : Below w'.heap.size w' w'') : Put3 w w'' b o x :=
  ⟨g.os.trans h.os, g.tape.trans h.tape, g.output.trans h.output, Nat.le_trans h.size g.size, fun k hk hn => (g.block k (Nat.lt_of_lt_of_le hk h.size)).trans (h.block k hk hn),
   h.here.block (g.block b (Nat.lt_of_lt_of_le hb h.size)), fun j hj => (g.cell (p := ⟨b, j, none⟩) (Nat.lt_of_lt_of_le hb h.size)).trans (h.oth j hj), fun j => (g.frozen (p := ⟨b, j, none⟩) (Nat.lt_of_lt_of_le hb h.size)).trans (h.fz j)⟩
theorem put3 {w : World} {b o : Nat} {y : Int × Int × Int} (h : E3 w b o y) (x : Int × Int × Int) :
    Put3 w (((w.setCell ⟨b, o, none⟩ (.int .i64 x.1)).setCell ⟨b, o + 1, none⟩ (.int .i64 x.2.1)).setCell ⟨b, o + 2, none⟩ (.int .i64 x.2.2)) b o x := by
  obtain ⟨h0, h1, h2⟩ := h
  refine ⟨rfl, rfl, rfl, ?_, ?_, ⟨?_, ?_, ?_⟩, ?_, ?_⟩
  · simp [World.setCell]
  · intro k hk hne
    rw [Below.heap_setCell _ _ _ _ hne, Below.heap_setCell _ _ _ _ hne, Below.heap_setCell _ _ _ _ hne]
  · rw [World.cell?_setCell_other _ _ _ _ (by simp), World.cell?_setCell_other _ _ _ _ (by simp), World.cell?_setCell_same _ _ _ h0]
  · rw [World.cell?_setCell_other _ _ _ _ (by simp), World.cell?_setCell_same _ _ _ ((World.cell?_setCell_other _ _ _ _ (by simp)).trans h1)]
  · exact World.cell?_setCell_same _ _ _ ((World.cell?_setCell_other _ _ _ _ (by simp)).trans ((World.cell?_setCell_other _ _ _ _ (by simp)).trans h2))
  · intro j hj
    have e : ∀ i, i < o + 3 → o ≤ i → (⟨b, i, none⟩ : Addr) ≠ ⟨b, j, none⟩ := fun i hi h e => by cases e; omega
    rw [World.cell?_setCell_other _ _ _ _ (e _ (by omega) (by omega)), World.cell?_setCell_other _ _ _ _ (e _ (by omega) (by omega)), World.cell?_setCell_other _ _ _ _ (e _ (by omega) (by omega))]
  · intro j
    simp
set_option maxHeartbeats 2000000 in
theorem lead_host {t : Nat} {w : World} (k : Nat) (hk : k < 64) (q : Int) (x y : Int × Int × Int) (ht : t < w.heap.size) (h : E3 w t (1 + k * 3) y) (hf : ∀ o, w.frozen? ⟨t, o, none⟩ = false) :
    Calls Try.prog 40 #[.pointer (some ⟨t, 0, none⟩), .int .i64 (-((k : Int) + 1)), .int .i64 q, e3V x] w fun r w' => r = .returned (.tuple #[]) ∧ Put3 w w' t (1 + k * 3) x := by
  have H1 : Hid (inB (-((k : Int) + 1)) (-64) (-1) = true) := (show _ = _ by rw [inB_true]; omega)
  obtain ⟨c0, c1, c2⟩ := h
  have HP : Hid (Put3 w (((w.setCell ⟨t, 1 + k * 3, none⟩ (.int .i64 x.1)).setCell ⟨t, 1 + k * 3 + 1, none⟩ (.int .i64 x.2.1)).setCell ⟨t, 1 + k * 3 + 2, none⟩ (.int .i64 x.2.2)) t (1 + k * 3) x) := (show Put3 _ _ _ _ _ from put3 ⟨c0, c1, c2⟩ x)
  have f0 := hf (1 + k * 3)
  have f1 := hf (1 + k * 3 + 1)
  have f2 := hf (1 + k * 3 + 2)
  clear hf
  go_enter Try.func40, Try.ntmps40
  go_wp2_with (go_at_call 39; refine (host_any _ _).mono ?_; rw [H1.out]; rintro r w' ⟨rfl, rfl⟩)
  go_region
  go_wp2
  refine bodyPost_ret (results_none rfl _ _ _) rfl ?_
  exact ⟨rfl, HP.out.more ht (by go_grown)⟩
set_option maxHeartbeats 2000000 in
theorem lead_sw {t e n : Nat} {w : World} (i j : Nat) (hi : i < n) (hj : j < 16) (hn : n ≤ 32) (x y : Int × Int × Int) (he : e < w.heap.size) (ht : t < w.heap.size) (hc : w.cell? ⟨t, 0, none⟩ = some (.slice (some ⟨e, 0, none⟩) n n)) (h : E3 w e (i * 48 + j * 3) y) (hf : ∀ o, w.frozen? ⟨e, o, none⟩ = false) :
    Calls Try.prog 40 #[.pointer (some ⟨t, 0, none⟩), .int .i64 ((i : Int) + 1), .int .i64 ((j : Int) + 1), e3V x] w fun r w' => r = .returned (.tuple #[]) ∧ Put3 w w' e (i * 48 + j * 3) x := by
  have H1 : Hid (inB ((i : Int) + 1) (-64) (-1) = false) := (show _ = _ by rw [inB_false]; omega)
  obtain ⟨c0, c1, c2⟩ := h
  have HP : Hid (Put3 w (((w.setCell ⟨e, i * 48 + j * 3, none⟩ (.int .i64 x.1)).setCell ⟨e, i * 48 + j * 3 + 1, none⟩ (.int .i64 x.2.1)).setCell ⟨e, i * 48 + j * 3 + 2, none⟩ (.int .i64 x.2.2)) e (i * 48 + j * 3) x) := (show Put3 _ _ _ _ _ from put3 ⟨c0, c1, c2⟩ x)
  have f0 := hf (i * 48 + j * 3)
  have f1 := hf (i * 48 + j * 3 + 1)
  have f2 := hf (i * 48 + j * 3 + 2)
  clear hf
  go_enter Try.func40, Try.ntmps40
  go_wp2_with (go_at_call 39; refine (host_any _ _).mono ?_; rw [H1.out]; rintro r w' ⟨rfl, rfl⟩)
  go_region
  go_wp2
  (try simp only [Exit.inBlock, Exit.then])
  first | refine bodyPost_end (results_none rfl _ _ _) rfl ?_ | refine bodyPost_ret (results_none rfl _ _ _) rfl ?_
  exact ⟨rfl, HP.out.more he (by go_grown)⟩
end Go.Proofs.Ytcjojcaahpkacaa
