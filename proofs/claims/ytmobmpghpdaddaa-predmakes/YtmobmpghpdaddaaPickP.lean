/-
  What is picked of cubes (nothing of the program), and Pick, Meet of cubes that are whole.
-/
import Derived.Test.YtmobmpghpdaddaaLawUse
namespace Go.Proofs.Ytmobmpghpdaddaa
open Go.ChangeShapes Go.WideShapes Go.ChangeAt Go.RowKit
set_option linter.unusedVariables false
set_option linter.unusedSimpArgs false

/-- The values that are picked of a cube, as a list. -/
def pkL (k : K) : List B64 := (List.range 10).map k.v
theorem pkL_len (k : K) : (pkL k).length = 10 := by simp [pkL]
theorem pkL_get (k : K) (i : Nat) (h : i < (pkL k).length) : (pkL k)[i] = k.v i := by simp [pkL]
theorem pkL_val (k : K) (f : Nat) (h : f < 10) : valR (pkL k) f = k.v f := by
  unfold valR
  rw [List.getD_eq_getElem?_getD, List.getElem?_eq_getElem (by rw [pkL_len]; exact h), pkL_get]
  rfl
theorem hasB_pk {k : K} (h : Vk k) : hasB k (valR (pkL k)) = true := by
  rw [hasB_iff]
  intro f hf
  rw [pkL_val k f hf]
  exact h.sub f
theorem cnt_pos {L : List K} {k : K} {r : Rw} (h : k ∈ L) (hk : hasB k r = true) : 1 ≤ cnt r L := by
  unfold cnt
  exact List.countP_pos_iff.2 ⟨k, h, hk⟩
theorem cnt_two {L : List K} {i j : Nat} (hij : j < i) (hi : i < L.length) {r : Rw} (h1 : hasB (L[j]'(by omega)) r = true) (h2 : hasB L[i] r = true) : 2 ≤ cnt r L := by
  have e : L = L.take i ++ L.drop i := (List.take_append_drop i L).symm
  have m1 : (L[j]'(by omega)) ∈ L.take i := by
    rw [List.mem_iff_getElem]
    exact ⟨j, by rw [List.length_take]; omega, by simp⟩
  have m2 : L[i] ∈ L.drop i := by
    rw [List.mem_iff_getElem]
    exact ⟨0, by rw [List.length_drop]; omega, by simp⟩
  have c1 := cnt_pos m1 h1
  have c2 := cnt_pos m2 h2
  have c3 : cnt r L = cnt r (L.take i) + cnt r (L.drop i) := by
    conv => lhs; rw [e]
    exact cnt_app r _ _
  omega
/-- Each cube's values make the predicate true; no two cubes meet. -/
theorem Gd.pick {L : List K} {p : Rw → Bool} (h : Gd L p) {k : K} (hk : k ∈ L) : p (valR (pkL k)) = true := by
  have h1 := cnt_pos hk (hasB_pk (h.1 k hk))
  rw [h.2] at h1
  cases hp : p (valR (pkL k)) with
  | true => rfl
  | false => rw [hp] at h1; simp at h1
theorem Gd.apart {L : List K} {p : Rw → Bool} (h : Gd L p) {i j : Nat} (hij : j < i) (hi : i < L.length) : meetB (L[j]'(by omega)) L[i] = false := by
  cases hm : meetB (L[j]'(by omega)) L[i] with
  | false => rfl
  | true =>
    have v1 := h.1 _ (List.getElem_mem (show j < L.length by omega))
    have v2 := h.1 _ (List.getElem_mem hi)
    have hb := hasB_pk (v1.both v2)
    have key := both_has v1 v2 (valR (pkL (bothK (L[j]'(by omega)) L[i])))
    rw [hm, hb, Bool.and_true] at key
    have key2 := Bool.and_eq_true_iff.1 key.symm
    have h2 := cnt_two hij hi key2.1 key2.2
    rw [h.2] at h2
    split at h2 <;> omega
/-- Pick of a cube's tests. -/
theorem pick_k {k : K} (hk : Vk k) {x : Option Addr} {c : Nat} {u : World} (h : Ts u x (toT k)) :
    Calls Try.prog 26 #[.slice x (toT k).length c] u fun e w' => ∃ b, e = .returned (.slice (some ⟨b, 0, none⟩) 10 10) ∧ Vs w' (some ⟨b, 0, none⟩) (pkL k) ∧ Below u.heap.size u w' := by
  refine (pick_any x (toT k) c u h (toT_few k)).mono fun e w' hq => ?_
  rcases hq with ⟨h1, _⟩ | ⟨_, b, h2, h3⟩
  · rw [toT_whole hk] at h1; cases h1
  · rw [cubF_toT hk] at h3
    refine ⟨b, h2, .inr ⟨b, 0, rfl, h3.lt, fun i hi => ?_⟩, h3.bel⟩
    rw [pkL_get]
    exact h3.row i (by rwa [pkL_len] at hi)
theorem whole_k {k : K} (hk : Vk k) {x : Option Addr} {c : Nat} {u : World} (h : Ts u x (toT k)) :
    Calls Try.prog 22 #[.slice x (toT k).length c] u fun e w' => e = .returned (.bool true) ∧ Below u.heap.size u w' := by
  have := whole_any x (toT k) c u h (toT_few k)
  rw [toT_whole hk] at this
  exact this
theorem meet_no {j k : K} (hj : Vk j) (hk : Vk k) (hm : meetB j k = false) {x y : Option Addr} {c d : Nat} {u : World} (h : Ts u x (toT j)) (g : Ts u y (toT k)) :
    Calls Try.prog 28 #[.slice x (toT j).length c, .slice y (toT k).length d] u fun e w' => e = .returned (.tuple #[.slice none 0 0, .bool false]) ∧ Below u.heap.size u w' := by
  refine (meet_any x (toT j) c y (toT k) d u h g (toT_few j) (toT_few k)).mono fun e w' hq => ?_
  rcases hq with ⟨_, _, h1, _⟩ | ⟨_, h2, h3⟩
  · rw [cubF_toT hj, cubF_toT hk, hm] at h1; cases h1
  · exact ⟨h2, h3⟩
theorem meet_yes {j k : K} (hj : Vk j) (hk : Vk k) (hm : meetB j k = true) {x y : Option Addr} {c d : Nat} {u : World} (h : Ts u x (toT j)) (g : Ts u y (toT k)) :
    Calls Try.prog 28 #[.slice x (toT j).length c, .slice y (toT k).length d] u fun e w' => ∃ z f, e = .returned (.tuple #[.slice z (toT (bothK j k)).length f, .bool true]) ∧ Ts w' z (toT (bothK j k)) ∧ Below u.heap.size u w' := by
  refine (meet_any x (toT j) c y (toT k) d u h g (toT_few j) (toT_few k)).mono fun e w' hq => ?_
  rcases hq with ⟨_, _, _, v, h2, h3⟩ | ⟨h1, _⟩
  · rw [cubF_toT hj, cubF_toT hk] at h3
    obtain ⟨z, f, rfl, _, hsk⟩ := own_sk kdT h3.own
    exact ⟨z, f, h2, hsk.ts, h3.bel⟩
  · rw [toT_whole hj, toT_whole hk, cubF_toT hj, cubF_toT hk, hm] at h1; cases h1
end Go.Proofs.Ytmobmpghpdaddaa
