/-
  What is handed in: a slice of calls is its cells, an array of two ints is two numbers.
-/
import Derived.Test.YtkbcbijaejmfdaaBoth
import Derived.ShutString
import Derived.ChangeOld
import Derived.Below
import Derived.SizedLaws
import Derived.Carry
import Derived.Deep.SlicePairs
namespace Go.Proofs.Ytkbcbijaejmfdaa
open Go.ChangeShapes Go.WideShapes Go.ChangeAt Go.RowKit

theorem cellsOp : Try.prog.cellsOf 32 = 2 := by kernel_rfl
theorem cellsInt : Try.prog.cellsOf 3 = 1 := by kernel_rfl
theorem addPlain (g o j : Nat) : (⟨g, o, none⟩ : Addr).add j = ⟨g, o + j, none⟩ := by unfold Addr.add; split <;> simp_all
/-- The calls of a slice that is read. -/
theorem asks_of {H : Type} {enc : TypeId × Value → H} {W : World} {a : Option Addr} {len cap fuel : Nat} {x : DataW H × List MemPlace} (hlt : ∀ p ∈ x.2, p.block < W.heap.size)
    (h : DataW.trod enc Try.prog W 0 (fun _ => true) true fuel 22 [.slice a len cap] = some x) : ∃ P N, Asks W a len P N := by
  rcases Deep.open_slice_pairs Try.underlying22 Try.underlying32 cellsOp rfl rfl (by kernel_rfl) (by kernel_rfl) h with ⟨hcs, _⟩ | ⟨ad, l, c, m, n, V0, V1, D0, D1, P0, P1, hcs, hb, hl, hm, hmm, hx, hel⟩
  · simp at hcs
    exact ⟨fun _ => false, fun _ => 0, .inl hcs.2.1⟩
  · simp at hcs
    obtain ⟨rfl, rfl, rfl⟩ := hcs
    by_cases h0 : len = 0
    · exact ⟨fun _ => false, fun _ => 0, .inl h0⟩
    · have hm' : m = cap := by simpa using hmm
      subst hm'
      obtain ⟨g, o, spot⟩ := ad
      have hsp : spot = none := by simpa [Addr.add] using World.cell?_spot (hel 0 (by omega)).1
      subst hsp
      have hg : g < W.heap.size := hlt (.cell g (o + 0)) (by rw [hx]; exact List.mem_append_left _ (by simp [MemPlace.row]; omega))
      have one : ∀ i, i < len → ∃ b : Bool × Int, W.cell? ⟨g, o + i * 2, none⟩ = some (.bool b.1) ∧ W.cell? ⟨g, o + i * 2 + 1, none⟩ = some (.int .i64 b.2) := by
        intro i hi
        obtain ⟨h1, h2, h3, h4⟩ := hel i (by omega)
        obtain ⟨b, e1, _⟩ := DataW.trod_bool Try.underlying4 h3
        obtain ⟨z, e2, _⟩ := DataW.trod_int Try.underlying3 h4
        simp at e1 e2
        refine ⟨(b, z), ?_, ?_⟩
        · rw [← e1, ← h1, addPlain]
        · rw [← e2, ← h2, addPlain]; rfl
      obtain ⟨f, hf⟩ := Deep.choose_lt one
      exact ⟨fun i => (f i).1, fun i => (f i).2, .inr ⟨g, o, rfl, hg, hf⟩⟩

theorem array2 {α : Type} {cs : Array α} (h : cs.size = 2) : ∃ c0 c1, cs = #[c0, c1] := by
  obtain ⟨l⟩ := cs
  match l, h with
  | [c0, c1], _ => exact ⟨c0, c1, rfl⟩
theorem open_two {H : Type} {enc : TypeId × Value → H} {W : World} {r : Reach} {b0 base : Nat} {sp : Nat → Bool} {held : Bool} {v : Value} {d : DataW H} {ps : List MemPlace} (hv : Value.okWide Try.prog W r b0 40 v) (h : DataW.Trod enc Try.prog W base sp held 40 v d ps) :
    ∃ x y : Int, v = .agg #[.int .i64 x, .int .i64 y] := by
  simp only [Value.okWide, Try.underlying40] at hv
  obtain ⟨cs, rfl, hsz, _⟩ := hv
  obtain ⟨c0, c1, rfl⟩ := array2 (hsz.trans (by kernel_rfl))
  obtain ⟨fuel, hf⟩ := h
  obtain ⟨xs, n, _, _, _, hlen, hfs⟩ := DataW.trod_array Try.underlying40 hf
  match xs, hlen with
  | [y0, y1], _ =>
    have t0 : DataW.trod enc Try.prog W base sp held n 3 [c0] = some y0 := by simpa [Value.cells, cellsInt] using hfs 0 (by omega)
    obtain ⟨n0, q0, _, w0⟩ := DataW.trod_int Try.underlying3 t0
    have z0 := (List.cons.inj q0).1
    have t1 : DataW.trod enc Try.prog W base sp held n 3 [c1] = some y1 := by simpa [Value.cells, cellsInt] using hfs 1 (by omega)
    obtain ⟨n1, q1, _, w1⟩ := DataW.trod_int Try.underlying3 t1
    have z1 := (List.cons.inj q1).1
    exact ⟨n0, n1, by rw [z0, z1]⟩
end Go.Proofs.Ytkbcbijaejmfdaa
