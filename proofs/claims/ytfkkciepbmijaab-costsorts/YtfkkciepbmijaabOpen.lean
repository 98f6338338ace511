/-
  What is handed in: numbers of 64 bits, and a slice of them.
-/
import Derived.Test.YtfkkciepbmijaabAwake
import Derived.ShutString
import Derived.ChangeOld
import Derived.SizedLaws
import Derived.Carry
import Derived.Deep.Slices
namespace Go.Proofs.Ytfkkciepbmijaab
open Go.ChangeShapes Go.WideShapes Go.ChangeAt Go.RowKit
set_option linter.unusedVariables false

theorem cellsU : Try.prog.cellsOf 32 = 1 := by kernel_rfl
theorem bytesU : Try.prog.bytesOf 32 = 8 := by kernel_rfl
theorem wf_u64 {n : Int} (h : (Lit.int .u64 n).wf = true) : 0 ≤ n ∧ n < 18446744073709551616 := by
  simp [Lit.wf, IntKind.min, IntKind.max, IntKind.signed, IntKind.bits] at h; omega
set_option maxRecDepth 100000 in
theorem u64s_of {H : Type} {enc : TypeId × Value → H} {W : World} {a : Option Addr} {len cap fuel : Nat} {x : DataW H × List MemPlace} (hlt : ∀ p ∈ x.2, p.block < W.heap.size)
    (h : DataW.trod enc Try.prog W 0 (fun _ => true) true fuel 22 [.slice a len cap] = some x) : ∃ l : List Nat, l.length = len ∧ Us W a l ∧ W64 l ∧ (len = 0 ∨ ∃ es sp, x.1 = .slice es sp ∧ es.length = len) := by
  rcases Deep.open_slice Try.underlying22 h with ⟨hcs, _⟩ | ⟨ad, ln, cp, m, n, D, Pl, hcs, hb, hl, hm, hmm, hx, hel⟩
  · simp at hcs
    exact ⟨[], hcs.2.1.symm, .inl rfl, (fun _ h => by cases h), .inl hcs.2.1⟩
  · simp at hcs
    obtain ⟨rfl, rfl, rfl⟩ := hcs
    have hm' : m = cap := by simpa using hmm
    subst hm'
    have one : ∀ i, i < len → ∃ t : Nat, t < 2 ^ 64 ∧ W.cell? (ad.add i) = some (.int .u64 (t : Int)) := by
      intro i hi
      obtain ⟨cs', h1, h2⟩ := hel i (by omega)
      rw [cellsU] at h1
      obtain ⟨_, hlen, hcell⟩ := World.cells?_some h1
      match cs', hlen with
      | [v0], _ =>
        obtain ⟨b, e0, _, wf⟩ := DataW.trod_int Try.underlying32 h2
        simp at e0
        have c0 := hcell 0 (by omega)
        rw [Deep.add_add] at c0
        have hw := wf_u64 wf
        refine ⟨b.toNat, by omega, ?_⟩
        rw [show ((b.toNat : Nat) : Int) = b by omega]
        simpa [e0] using c0
    obtain ⟨f, hf⟩ := Deep.choose_lt one
    have hsz : len = 0 ∨ ∃ es sp, x.1 = .slice es sp ∧ es.length = len := .inr ⟨_, _, congrArg Prod.fst hx, by simp⟩
    by_cases h0 : len = 0
    · subst h0
      exact ⟨[], rfl, .inl rfl, (fun _ h => by cases h), hsz⟩
    · obtain ⟨g, o, spot⟩ := ad
      have hsp : spot = none := by simpa [Addr.add] using World.cell?_spot (hf 0 (by omega)).2
      subst hsp
      have hg : g < W.heap.size := hlt (.cell g (o + 0)) (by rw [hx, cellsU]; exact List.mem_append_left _ (by simp [MemPlace.row]; omega))
      refine ⟨(List.range len).map f, by simp, .inr ⟨g, o, rfl, hg, fun i hi => ?_⟩, fun y hy => ?_, hsz⟩
      · have hi' : i < len := by simpa using hi
        have x0 := (hf i hi').2
        rw [addP] at x0
        simp only [List.getElem_map, List.getElem_range]
        exact x0
      · obtain ⟨i, hi, rfl⟩ := List.mem_map.1 hy
        exact (hf i (List.mem_range.1 hi)).1
theorem len_of {n : Nat} {H : Type} {ts : List TypeId} {ds : List (DataW H)} {x : DataW H} {j : Nat} (hsz : (DataW.weightsEach Try.prog ts ds).all (· ≤ reachBytes) = true) (ht : ts[j]? = some 22) (hd : ds[j]? = some x) (h : n = 0 ∨ ∃ es sp, x = .slice es sp ∧ es.length = n) : n < 17592186044416 := by
  rcases h with h | ⟨es, sp, rfl, h⟩
  · omega
  · have := sized_slice hsz ht hd Try.underlying22
    rw [bytesU, h] at this
    have h2 := reachBytes_lt
    omega
end Go.Proofs.Ytfkkciepbmijaab
