/-
  Reach goes both ways: plain lists and numbers.
-/
import Derived.Test.YtcjojcaahpkacaaSeek
namespace Go.Proofs.Ytcjojcaahpkacaa
set_option linter.unusedVariables false
theorem rch_in {n : Nat} {L : List Lk} (h : goodF n [] L = true) {ds : List Int} {s x : Int} (hs : 1 ≤ s ∧ s ≤ n) (hr : Rch L ds s x) : 1 ≤ x ∧ x ≤ n :=
  hr (fun x => 1 ≤ x ∧ x ≤ n) hs (fun y z _ hz => (adj_in h hz).2)
theorem both_has {n : Nat} {L : List Lk} (h : goodF n [] L = true) {ds : List Int} {s x : Int} {A B : List Int} (hA : Rd n L ds s A) (hB : Rd n L ds x B) : x ∈ A ↔ s ∈ B := by
  rw [hA.2.1 x, hB.2.1 s]
  constructor
  · rintro ⟨h1, h2⟩
    exact ⟨rch_in h h1 h2, h2.symm⟩
  · rintro ⟨h1, h2⟩
    exact ⟨rch_in h h1 h2, h2.symm⟩
theorem both_mem {n : Nat} {L : List Lk} (h : goodF n [] L = true) {ds : List Int} {s x : Int} {A B : List Int} (hA : Rd n L ds s A) (hB : Rd n L ds x B) (hx : x ∈ A) (z : Int) : z ∈ A ↔ z ∈ B := by
  obtain ⟨h1, h2⟩ := (hA.2.1 x).1 hx
  rw [hA.2.1 z, hB.2.1 z]
  constructor
  · rintro ⟨_, h3⟩
    exact ⟨rch_in h h1 h2, h2.symm.trans h3⟩
  · rintro ⟨_, h3⟩
    exact ⟨h1, h2.trans h3⟩
end Go.Proofs.Ytcjojcaahpkacaa
