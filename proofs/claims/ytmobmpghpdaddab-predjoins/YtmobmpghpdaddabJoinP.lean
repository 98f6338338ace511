/-
  What And, Or and Not say, and what is cut of a cube (nothing of the program).
-/
import Derived.Test.YtmobmpghpdaddabPickP
namespace Go.Proofs.Ytmobmpghpdaddab
open Go.ChangeShapes Go.WideShapes Go.ChangeAt Go.RowKit
set_option linter.unusedVariables false
set_option linter.unusedSimpArgs false

theorem saidL_app (r : Rw) : ∀ (l m : List Nd) (P : List Bool), saidL r (l ++ m) P = saidL r m (saidL r l P)
  | [], m, P => rfl
  | x :: l, m, P => saidL_app r l m _
theorem getD_right (S P : List Bool) (i : Int) (h : 0 ≤ i) : (S ++ P).getD (i + (S.length : Int)).toNat false = P.getD i.toNat false := by
  rw [List.getD_eq_getElem?_getD, List.getD_eq_getElem?_getD, List.getElem?_append_right (by omega), show (i + (S.length : Int)).toNat - S.length = i.toNat by omega]
theorem getD_left (S P : List Bool) (i : Nat) (h : i < S.length) : (S ++ P).getD i false = S.getD i false := by
  rw [List.getD_eq_getElem?_getD, List.getD_eq_getElem?_getD, List.getElem?_append_left h]
theorem says_moved (r : Rw) (S P : List Bool) (x : Nd) (h : ∀ i ∈ x.s, 0 ≤ i) : saysB (mvN S.length x) (S ++ P) r = saysB x P r := by
  have e : yesC (mvN S.length x).s (S ++ P) = yesC x.s P := by
    unfold yesC mvN
    simp only
    rw [List.filter_map, List.length_map]
    congr 1
    refine List.filter_congr fun i hi => ?_
    exact getD_right S P i (h i hi)
  unfold saysB
  rw [e]
  have e2 : (mvN S.length x).s.length = x.s.length := by unfold mvN; simp
  rw [e2]
  rfl
theorem said_moved (r : Rw) (S : List Bool) : ∀ (l : List Nd) (P : List Bool), (∀ x ∈ l, ∀ i ∈ x.s, 0 ≤ i) → saidL r (l.map (mvN S.length)) (S ++ P) = S ++ saidL r l P
  | [], P, _ => rfl
  | x :: l, P, h => by
    show saidL r (l.map (mvN S.length)) (S ++ P ++ [saysB (mvN S.length x) (S ++ P) r]) = _
    rw [says_moved r S P x (h x (List.mem_cons_self ..)), List.append_assoc, said_moved r S l _ (fun y hy => h y (List.mem_cons_of_mem _ hy))]
    rfl
theorem evalB_last {l : List Nd} (h : rightB l = true) (r : Rw) : evalB r l = (saidL r l []).getD (l.length - 1) false := by
  unfold evalB
  have hl : (saidL r l []).length = l.length := by rw [saidL_len]; simp
  rw [h, Bool.true_and, List.getLastD_eq_getLast?, List.getLast?_eq_getElem?, hl, List.getD_eq_getElem?_getD]
/-- The tops are what the parts say. -/
theorem join_said (r : Rw) : ∀ (ps : List (List Nd)) (acc : List Nd) (tops : List Int) (acc' : List Nd) (tops' : List Int), (∀ t ∈ tops, 0 ≤ t ∧ t < (acc.length : Int)) → joinL acc tops ps = some (acc', tops') →
    (∀ p ∈ ps, rightB p = true) ∧ (∀ t ∈ tops', 0 ≤ t ∧ t < (acc'.length : Int)) ∧ tops'.map (fun t => (saidL r acc' []).getD t.toNat false) = tops.map (fun t => (saidL r acc []).getD t.toNat false) ++ ps.map (evalB r)
  | [], acc, tops, acc', tops', h, e => by
    cases e
    exact ⟨(fun p hp => by cases hp), h, by simp⟩
  | l :: ps, acc, tops, acc', tops', h, e => by
    rw [joinL_cons] at e
    cases hr : rightB l with
    | false => rw [hr] at e; cases e
    | true =>
      rw [hr, if_pos rfl] at e
      have hl := rightB_len hr
      have hS : (saidL r acc []).length = acc.length := by rw [saidL_len]; simp
      have hsub : ∀ x ∈ l, ∀ i ∈ x.s, 0 ≤ i := fun x hx i hi => ((right_few hr x hx).2 i hi).1
      have e2 : saidL r (acc ++ l.map (mvN acc.length)) [] = saidL r acc [] ++ saidL r l [] := by
        rw [saidL_app]
        have := said_moved r (saidL r acc []) l [] hsub
        rw [hS, List.append_nil] at this
        exact this
      have htops : ∀ t ∈ tops ++ [((acc.length + l.length : Nat) : Int) - 1], 0 ≤ t ∧ t < ((acc ++ l.map (mvN acc.length)).length : Int) := fun t ht => by
        rw [List.length_append, List.length_map]
        rcases List.mem_append.1 ht with ht | ht
        · have := h t ht; omega
        · rw [List.mem_singleton] at ht; omega
      obtain ⟨k1, k2, k3⟩ := join_said r ps _ _ acc' tops' htops e
      refine ⟨fun p hp => ?_, k2, ?_⟩
      · rcases List.mem_cons.1 hp with rfl | hp
        · exact hr
        · exact k1 p hp
      · rw [k3, List.map_append, e2, List.map_cons, List.map_cons, List.map_nil, List.append_assoc]
        congr 1
        · refine List.map_congr_left fun t ht => ?_
          exact getD_left _ _ _ (by rw [hS]; have := h t ht; omega)
        · congr 1
          rw [evalB_last hr r]
          have := getD_right (saidL r acc []) (saidL r l []) ((l.length : Int) - 1) (by omega)
          rw [hS, show (l.length : Int) - 1 + (acc.length : Int) = ((acc.length + l.length : Nat) : Int) - 1 by omega] at this
          rw [this, show ((l.length : Int) - 1).toNat = l.length - 1 by omega]
          rfl
theorem yes_map (s : List Int) (S : List Bool) (v : List Bool) (h : s.map (fun t => S.getD t.toNat false) = v) : yesC s S = (v.filter id).length ∧ s.length = v.length := by
  subst h
  unfold yesC
  rw [List.filter_map, List.length_map, List.length_map]
  exact ⟨rfl, rfl⟩
/-- What a made predicate says, if it is right. -/
theorem made_said {k : Int} {ps : List (List Nd)} (h : rightB (madeL k ps) = true) (r : Rw) : (∀ p ∈ ps, rightB p = true) ∧ evalB r (madeL k ps) = (if k = 4 then (ps.map (evalB r)).all id else if k = 5 then (ps.map (evalB r)).any id else if k = 6 then !((ps.map (evalB r)).any id) else evalB r (madeL k ps)) := by
  by_cases h12 : 12 < ps.length
  · have e : madeL k ps = [] := by unfold madeL; rw [if_pos h12]
    rw [e] at h
    cases h
  · cases hj : joinL [] [] ps with
    | none =>
      have e : madeL k ps = [] := by unfold madeL endL; rw [if_neg h12, hj]
      rw [e] at h
      cases h
    | some at' =>
      obtain ⟨acc, tops⟩ := at'
      obtain ⟨k1, k2, k3⟩ := join_said r ps [] [] acc tops (fun t ht => by cases ht) hj
      have e : madeL k ps = if rightB (acc ++ [⟨k, zT, tops⟩]) then acc ++ [⟨k, zT, tops⟩] else [] := by unfold madeL endL; rw [if_neg h12, hj]
      cases hr : rightB (acc ++ [⟨k, zT, tops⟩]) with
      | false => rw [e, hr] at h; cases h
      | true =>
        rw [hr, if_pos rfl] at e
        refine ⟨k1, ?_⟩
        have hv : tops.map (fun t => (saidL r acc []).getD t.toNat false) = ps.map (evalB r) := by simpa using k3
        obtain ⟨y1, y2⟩ := yes_map tops (saidL r acc []) _ hv
        have ev : evalB r (madeL k ps) = saysB ⟨k, zT, tops⟩ (saidL r acc []) r := by
          rw [e]
          unfold evalB
          rw [hr, Bool.true_and, saidL_app]
          show (saidL r acc [] ++ [saysB ⟨k, zT, tops⟩ (saidL r acc []) r]).getLastD false = _
          rw [List.getLastD_eq_getLast?]
          simp
        rw [ev]
        unfold saysB
        simp only
        rw [y1, y2]
        generalize ps.map (evalB r) = v
        by_cases h4 : k = 4
        · subst h4
          simp
          rw [Bool.eq_iff_iff]
          simp
        · by_cases h5 : k = 5
          · subst h5
            simp
            rw [Bool.eq_iff_iff]
            simp [List.length_pos_iff_exists_mem]
          · by_cases h6 : k = 6
            · subst h6
              simp
              rw [Bool.eq_iff_iff]
              simp
            · simp [h4, h5, h6]
theorem made_or (k : Int) (ps : List (List Nd)) : madeL k ps = [] ∨ rightB (madeL k ps) = true := by
  unfold madeL endL
  split
  · exact .inl rfl
  · cases joinL [] [] ps with
    | none => exact .inl rfl
    | some at' =>
      obtain ⟨acc, tops⟩ := at'
      simp only
      split
      · next h => exact .inr h
      · exact .inl rfl
theorem made_ok (k : Int) (ps : List (List Nd)) : (madeL k ps).length ≤ 9223372036854775807 ∧ ∀ x ∈ madeL k ps, x.s.length ≤ 9223372036854775807 := by
  rcases made_or k ps with h | h
  · rw [h]; exact ⟨by simp, by simp⟩
  · exact ⟨r_len h, r_sub h⟩
/-- And, Or of two: right together. -/
theorem made_right (ps : List (List Nd)) : rightB (madeL 4 ps) = rightB (madeL 5 ps) := by
  unfold madeL endL
  split
  · rfl
  · cases joinL [] [] ps with
    | none => rfl
    | some at' =>
      obtain ⟨acc, tops⟩ := at'
      have hrf : ∀ (l : List Nd) (j : Nat), rightFrom j (l ++ [⟨4, zT, tops⟩]) = rightFrom j (l ++ [⟨5, zT, tops⟩]) := by
        intro l
        induction l with
        | nil =>
          intro j
          show (rnB ⟨4, zT, tops⟩ j && true) = (rnB ⟨5, zT, tops⟩ j && true)
          unfold rnB
          simp
        | cons x l ih =>
          intro j
          show (rnB x j && rightFrom (j + 1) (l ++ _)) = (rnB x j && rightFrom (j + 1) (l ++ _))
          rw [ih]
      have e : rightB (acc ++ [⟨4, zT, tops⟩]) = rightB (acc ++ [⟨5, zT, tops⟩]) := by
        unfold rightB
        rw [hrf]
        simp
      simp only
      rw [e]
      split
      · rw [e]
      · rfl
theorem rightFrom_app : ∀ (l m : List Nd) (j : Nat), rightFrom j (l ++ m) = (rightFrom j l && rightFrom (j + l.length) m)
  | [], m, j => by simp [rightFrom]
  | x :: l, m, j => by
    show (rnB x j && rightFrom (j + 1) (l ++ m)) = ((rnB x j && rightFrom (j + 1) l) && _)
    rw [rightFrom_app l m (j + 1), Bool.and_assoc, List.length_cons, show j + 1 + l.length = j + (l.length + 1) by omega]
theorem mv_zero (l : List Nd) : l.map (mvN 0) = l := by
  have : ∀ x : Nd, mvN 0 x = x := fun x => by unfold mvN; simp
  rw [List.map_congr_left (fun x _ => this x), List.map_id']
/-- Not of a right predicate of fewer than 60 nodes is right. -/
theorem not_right {l : List Nd} (h : rightB l = true) (h60 : l.length < 60) : rightB (madeL 6 [l]) = true := by
  have hl := rightB_len h
  have hrf : rightFrom 0 l = true := by unfold rightB at h; rw [Bool.and_eq_true] at h; exact h.2
  have e : joinL [] [] [l] = some (l, [((l.length : Nat) : Int) - 1]) := by
    rw [joinL_cons, h, if_pos rfl]
    show some (([] : List Nd) ++ l.map (mvN (([] : List Nd).length : Int)), _) = _
    rw [List.nil_append]
    have : l.map (mvN (([] : List Nd).length : Int)) = l := mv_zero l
    rw [this]
    simp
  have hr : rightB (l ++ [⟨6, zT, [((l.length : Nat) : Int) - 1]⟩]) = true := by
    unfold rightB
    rw [rightFrom_app, hrf]
    have hn : rnB ⟨6, zT, [((l.length : Nat) : Int) - 1]⟩ ((0 + l.length : Nat) : Int) = true := by
      unfold rnB aheadB badB z0B zT
      simp
      omega
    have e3 : rightFrom (0 + l.length) [⟨6, zT, [((l.length : Nat) : Int) - 1]⟩] = true := by
      show (rnB _ ((0 + l.length : Nat) : Int) && true) = true
      rw [hn]
      rfl
    rw [e3]
    simp
    omega
  unfold madeL endL
  rw [if_neg (by simp), e]
  simp only
  rw [if_pos hr]
  exact hr
end Go.Proofs.Ytmobmpghpdaddab
