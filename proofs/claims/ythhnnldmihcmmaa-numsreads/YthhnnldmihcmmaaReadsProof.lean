/-
  Proved here: for every string data and every slice asks the law NumsReads answers true (of up to 10000 bytes each of the first 60 calls of a reader answers what the document's own reader answers, as many bytes are left, and the same is wrong, call by call; of more bytes the chapter's examples alone), and its arguments read afterwards as before; there are no conditions.
-/
import Derived.Test.YthhnnldmihcmmaaRows
import Derived.Test.YthhnnldmihcmmaaReads
import Derived.WalkKit
import Derived.ProofKit
import Derived.OpenShut
import Derived.ShutString
import Derived.ChangeOld
import Derived.Below
import Derived.Deep.SlicePairs
namespace Go.Proofs.Ythhnnldmihcmmaa
namespace numsReads
open Go.ChangeShapes Go.WideShapes Go.ChangeAt Go.RowKit
open Go.ChangeMaps (open_string shut_string)
set_option linter.unusedVariables false
theorem own : ownKnob Try.prog.godebug = none := by kernel_rfl
theorem laidOut : laidOutB Try.prog = true := by kernel_rfl
theorem cells35 : Try.prog.cellsOf 35 = 2 := by kernel_rfl

theorem plain (g o j : Nat) : (⟨g, o, none⟩ : Addr).add j = ⟨g, o + j, none⟩ := by unfold Addr.add; split <;> simp_all
/-- The asks of a slice that is read. -/
theorem asks_of {H : Type} {enc : TypeId × Value → H} {W : World} {a : Option Addr} {len cap fuel : Nat} {x : DataW H × List MemPlace} (hlt : ∀ p ∈ x.2, p.block < W.heap.size)
    (h : DataW.trod enc Try.prog W 0 (fun _ => true) true fuel 28 [.slice a len cap] = some x) : ∃ P N, Asks W a len P N := by
  rcases Deep.open_slice_pairs Try.underlying28 Try.underlying35 cells35 rfl rfl (by kernel_rfl) (by kernel_rfl) h with ⟨hcs, _⟩ | ⟨ad, l, c, m, n, V0, V1, D0, D1, P0, P1, hcs, hb, hl, hm, hmm, hx, hel⟩
  · simp at hcs
    exact ⟨fun _ => false, fun _ => 0, .inl hcs.2.1⟩
  · simp at hcs
    obtain ⟨rfl, rfl, rfl⟩ := hcs
    by_cases h0 : len = 0
    · exact ⟨fun _ => false, fun _ => 0, .inl h0⟩
    · have hm' : m = cap := by simpa using hmm
      subst hm'
      obtain ⟨g, o, spot⟩ := ad
      have hsp : spot = none := by simpa [Addr.add] using World.cell?_spot (hel 0 (by omega)).1
      subst hsp
      have hg : g < W.heap.size := hlt (.cell g (o + 0)) (by rw [hx]; exact List.mem_append_left _ (by simp [MemPlace.row]; omega))
      have one : ∀ i, i < len → ∃ b : Bool × Int, W.cell? ⟨g, o + i * 2, none⟩ = some (.bool b.1) ∧ W.cell? ⟨g, o + i * 2 + 1, none⟩ = some (.int .i64 b.2) := by
        intro i hi
        obtain ⟨h1, h2, h3, h4⟩ := hel i (by omega)
        obtain ⟨b, e1, _⟩ := DataW.trod_bool Try.underlying4 h3
        obtain ⟨z, e2, _⟩ := DataW.trod_int Try.underlying3 h4
        simp at e1 e2
        refine ⟨(b, z), ?_, ?_⟩
        · rw [← e1, ← h1, plain]
        · rw [← e2, ← h2, plain]; rfl
      obtain ⟨f, hf⟩ := Deep.choose_lt one
      exact ⟨fun i => (f i).1, fun i => (f i).2, .inr ⟨g, o, rfl, hg, hf⟩⟩

set_option maxRecDepth 100000 in
theorem lifted (os : Os) (started : os.Started) (H : Type) (enc : TypeId × Value → H) :
    ReturnsInHanded {} Try.checked os 4 .any (Rows.numsReadsSpec.pre6 enc Try.prog Try.f4 Rows.numsReadsRow.domain false) (Rows.numsReadsSpec.post enc Try.prog Try.f4 false true false false) := by
  refine returnsInHanded_of_change (C := Try.checked) own started (by kernel_rfl) Try.func4
    (ChangeSpec.witness6 (enc := enc) (C := Try.checked) false ⟨#[], #[.string ⟨#[]⟩, .slice none 0 0], []⟩ 8 (by kernel_rfl) (by kernel_rfl) (by kernel_rfl) (by kernel_rfl)) ?_
  intro W base args ds gs before hval0 hW hcnd _
  have hval : ∀ (j : Nat) t v, Try.f4.params[j]? = some t → args[j]? = some v → Value.okWide Try.prog W .any base t v := hval0
  have hW' := hW
  obtain ⟨p, q, hA0, hV, rfl, hfz, hnd⟩ := hW
  have hA : DataW.TrodAll enc Try.prog W 0 (fun _ => true) true Try.f4.params.toList args.toList ds p := hA0
  rw [Try.params4] at hA hval
  obtain ⟨v0, vs0, d0, ds0, p0, q0, hargs, rfl, rfl, h0, r0⟩ := trodAll_cons hA
  obtain ⟨v1, vs1, d1, ds1, p1, q1, rfl, rfl, rfl, h1, r1⟩ := trodAll_cons r0
  obtain ⟨rfl, rfl, rfl⟩ := trodAll_nil r1
  obtain rfl : args = #[v0, v1] := by cases args; simp_all
  obtain ⟨rfl, rfl⟩ := trodVars_none hV
  obtain ⟨a0, rfl, rfl, rfl, w0⟩ := open_string Try.underlying9 (hval 0 9 v0 rfl rfl) h0
  obtain ⟨a1, len1, cap1, rfl⟩ := okWide_slice Try.underlying28 (hval 1 28 v1 rfl rfl)
  have k1 := h1
  have lt1 : ∀ x ∈ p1, x.block < W.heap.size := by obtain ⟨m, hm⟩ := k1; exact DataW.trod_lt m _ _ _ hm
  obtain ⟨P, N, w1⟩ : ∃ P N, Asks W a1 len1 P N := by
    obtain ⟨fuel, hf⟩ := h1
    exact asks_of (x := (d1, p1)) lt1 hf
  clear hA0 hval0
  refine (reads_walk a0 a1 len1 cap1 P N W w0 w1).mono fun e W' ⟨he, bel⟩ => ?_
  subst he
  exact ⟨_, rfl, _, _, _, [], _, [], hW', trodAll_mk1 (shut_bool Try.underlying4 _), (trodAll_cons_mk (shut_string Try.underlying9 w0) (trodAll_cons_mk (Below.trod laidOut (by kernel_rfl) (of_decide_eq_true (by kernel_rfl)) k1 bel lt1) trodAll_mk0)), rfl, bel.frame _, fun h => by cases h⟩

theorem over : Rows.numsReadsRow.holds Try.pinned (OpenSpec.ofChange Rows.numsReadsSpec) :=
  OpenClaim.holds_of_wide 4 Try.f4 rfl rfl rfl rfl rfl rfl rfl ⟨rfl, rfl, rfl, rfl, rfl⟩ rfl rfl rfl rfl rfl (by kernel_rfl) Try.func4 (by kernel_rfl)
    (of_decide_eq_true (by kernel_rfl)) (by unfold Func.isWrapper; first | (rw [if_pos (by decide +kernel)]; kernel_rfl) | (rw [if_neg (by decide +kernel)]; exact ⟨rfl, rfl⟩))
    (fun os started H enc _ => lifted os started H enc)
end numsReads

theorem numsReads_holds : Rows.NumsReadsSaid := numsReads.over
end Go.Proofs.Ythhnnldmihcmmaa
