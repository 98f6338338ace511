/-
  What is handed in: a slice of links, and one of numbers, are their cells.
-/
import Derived.Test.YtcjojcaahpkacaaAwake
import Derived.ShutString
import Derived.ChangeOld
import Derived.SizedLaws
import Derived.Carry
import Derived.Deep.Slices
namespace Go.Proofs.Ytcjojcaahpkacaa
open Go.ChangeShapes Go.WideShapes Go.ChangeAt Go.RowKit
set_option linter.unusedVariables false

theorem cellsInt : Try.prog.cellsOf 3 = 1 := by kernel_rfl
theorem cellsFloat : Try.prog.cellsOf 43 = 1 := by kernel_rfl
theorem cellsLink : Try.prog.cellsOf 52 = 5 := by kernel_rfl
theorem wf_i64 {n : Int} (h : (Lit.int .i64 n).wf = true) : -9223372036854775808 ≤ n ∧ n < 9223372036854775808 := by
  simp [Lit.wf, IntKind.min, IntKind.max, IntKind.signed, IntKind.bits] at h; omega
theorem trod_float {H : Type} {enc : TypeId × Value → H} {P : Program} {w : World} {base : Nat} {spare : Nat → Bool} {held : Bool} {fuel : Nat} {t : TypeId} {cs : List Value} {x : DataW H × List MemPlace} {k : FloatKind} (ht : P.underlying t = some (.float k)) (h : DataW.trod enc P w base spare held fuel t cs = some x) :
    ∃ n, cs = [.float k n] ∧ x = (.lit (.float k n), []) ∧ (Lit.float k n).wf = true := by
  cases fuel with
  | zero => simp [DataW.trod] at h
  | succ n =>
    unfold DataW.trod at h
    rw [ht] at h
    split at h <;> simp_all
def lkOf (t : Int × Int × Int × Int × Nat) : Lk := ⟨t.1, t.2.1, t.2.2.1, t.2.2.2.1, t.2.2.2.2⟩
set_option maxRecDepth 100000 in
theorem links_of {H : Type} {enc : TypeId × Value → H} {W : World} {a : Option Addr} {len cap fuel : Nat} {x : DataW H × List MemPlace} (hlt : ∀ p ∈ x.2, p.block < W.heap.size)
    (h : DataW.trod enc Try.prog W 0 (fun _ => true) true fuel 22 [.slice a len cap] = some x) : ∃ l : List Lk, l.length = len ∧ Ls W a l ∧ len ≤ cap ∧ cap ≤ maxLen := by
  rcases Deep.open_slice Try.underlying22 h with ⟨hcs, _⟩ | ⟨ad, ln, cp, m, n, D, Pl, hcs, hb, hl, hm, hmm, hx, hel⟩
  · simp at hcs
    exact ⟨[], hcs.2.1.symm, .inl rfl, by omega, by unfold maxLen; omega⟩
  · simp at hcs
    obtain ⟨rfl, rfl, rfl⟩ := hcs
    have hm' : m = cap := by simpa using hmm
    subst hm'
    have one : ∀ i, i < len → ∃ t : Int × Int × Int × Int × Nat, W.cell? (ad.add (i * 5)) = some (.int .i64 (lkOf t).a) ∧ W.cell? (ad.add (i * 5 + 1)) = some (.int .i64 (lkOf t).p) ∧ W.cell? (ad.add (i * 5 + 2)) = some (.int .i64 (lkOf t).b) ∧ W.cell? (ad.add (i * 5 + 3)) = some (.int .i64 (lkOf t).q) ∧ W.cell? (ad.add (i * 5 + 4)) = some (.float .f64 (lkOf t).c) := by
      intro i hi
      obtain ⟨cs', h1, h2⟩ := hel i (by omega)
      rw [cellsLink] at h1
      obtain ⟨_, hlen, hcell⟩ := World.cells?_some h1
      obtain ⟨xs, k, hk, hxy, _, hxl, hf⟩ := DataW.trod_struct Try.underlying52 h2
      match xs, hxl, cs', hlen with
      | [y0, y1, y2, y3, y4], _, [v0, v1, v2, v3, v4], _ =>
        have g0 := hf 0 _ rfl
        have g1 := hf 1 _ rfl
        have g2 := hf 2 _ rfl
        have g3 := hf 3 _ rfl
        have g4 := hf 4 _ rfl
        simp [cellsInt, cellsFloat] at g0 g1 g2 g3 g4
        obtain ⟨n0, e0, _, _⟩ := DataW.trod_int Try.underlying3 g0
        obtain ⟨n1, e1, _, _⟩ := DataW.trod_int Try.underlying3 g1
        obtain ⟨n2, e2, _, _⟩ := DataW.trod_int Try.underlying3 g2
        obtain ⟨n3, e3, _, _⟩ := DataW.trod_int Try.underlying3 g3
        obtain ⟨n4, e4, _, _⟩ := trod_float Try.underlying43 g4
        simp at e0 e1 e2 e3 e4
        have c0 := hcell 0 (by omega)
        have c1 := hcell 1 (by omega)
        have c2 := hcell 2 (by omega)
        have c3 := hcell 3 (by omega)
        have c4 := hcell 4 (by omega)
        rw [Deep.add_add] at c0 c1 c2 c3 c4
        exact ⟨(n0, n1, n2, n3, n4), by simpa [e0, lkOf] using c0, by simpa [e1, lkOf] using c1, by simpa [e2, lkOf] using c2, by simpa [e3, lkOf] using c3, by simpa [e4, lkOf] using c4⟩
    obtain ⟨f, hf⟩ := Deep.choose_lt one
    by_cases h0 : len = 0
    · subst h0
      exact ⟨[], rfl, .inl rfl, hl, hm⟩
    · obtain ⟨g, o, spot⟩ := ad
      have hsp : spot = none := by simpa [Addr.add] using World.cell?_spot (hf 0 (by omega)).1
      subst hsp
      have hg : g < W.heap.size := hlt (.cell g (o + 0)) (by rw [hx, cellsLink]; exact List.mem_append_left _ (by simp [MemPlace.row]; omega))
      refine ⟨(List.range len).map fun i => lkOf (f i), by simp, .inr ⟨g, o, rfl, hg, fun i hi => ?_⟩, hl, hm⟩
      have hi' : i < len := by simpa using hi
      obtain ⟨x0, x1, x2, x3, x4⟩ := hf i hi'
      rw [addP] at x0 x1 x2 x3 x4
      simp only [List.getElem_map, List.getElem_range]
      exact ⟨x0, by rw [← Nat.add_assoc] at x1; exact x1, by rw [← Nat.add_assoc] at x2; exact x2, by rw [← Nat.add_assoc] at x3; exact x3, by rw [← Nat.add_assoc] at x4; exact x4⟩
set_option maxRecDepth 100000 in
theorem ints_of {H : Type} {enc : TypeId × Value → H} {W : World} {a : Option Addr} {len cap fuel : Nat} {x : DataW H × List MemPlace} (hlt : ∀ p ∈ x.2, p.block < W.heap.size)
    (h : DataW.trod enc Try.prog W 0 (fun _ => true) true fuel 36 [.slice a len cap] = some x) : ∃ l : List Int, l.length = len ∧ Is W a l ∧ len ≤ cap ∧ cap ≤ maxLen := by
  rcases Deep.open_slice Try.underlying36 h with ⟨hcs, _⟩ | ⟨ad, ln, cp, m, n, D, Pl, hcs, hb, hl, hm, hmm, hx, hel⟩
  · simp at hcs
    exact ⟨[], hcs.2.1.symm, .inl rfl, by omega, by unfold maxLen; omega⟩
  · simp at hcs
    obtain ⟨rfl, rfl, rfl⟩ := hcs
    have hm' : m = cap := by simpa using hmm
    subst hm'
    have one : ∀ i, i < len → ∃ t : Int, W.cell? (ad.add i) = some (.int .i64 t) := by
      intro i hi
      obtain ⟨cs', h1, h2⟩ := hel i (by omega)
      rw [cellsInt] at h1
      obtain ⟨_, hlen, hcell⟩ := World.cells?_some h1
      match cs', hlen with
      | [v0], _ =>
        obtain ⟨b, e0, _⟩ := DataW.trod_int Try.underlying3 h2
        simp at e0
        have c0 := hcell 0 (by omega)
        rw [Deep.add_add] at c0
        exact ⟨b, by simpa [e0] using c0⟩
    obtain ⟨f, hf⟩ := Deep.choose_lt one
    by_cases h0 : len = 0
    · subst h0
      exact ⟨[], rfl, .inl rfl, hl, hm⟩
    · obtain ⟨g, o, spot⟩ := ad
      have hsp : spot = none := by simpa [Addr.add] using World.cell?_spot (hf 0 (by omega))
      subst hsp
      have hg : g < W.heap.size := hlt (.cell g (o + 0)) (by rw [hx, cellsInt]; exact List.mem_append_left _ (by simp [MemPlace.row]; omega))
      refine ⟨(List.range len).map f, by simp, .inr ⟨g, o, rfl, hg, fun i hi => ?_⟩, hl, hm⟩
      have hi' : i < len := by simpa using hi
      have x0 := hf i hi'
      rw [addP] at x0
      simp only [List.getElem_map, List.getElem_range]
      exact x0
end Go.Proofs.Ytcjojcaahpkacaa
