/-
  The order of actions in a set, and what Merge and the document's Merge are: the plain mathematics (nothing of the program).
-/
import Derived.Test.YtmlonfchbkmbcabDoorMrg
namespace Go.Proofs.YtmlonfchbkmbcabDoor

/-- An action's numbers are of their types. -/
structure AW (a : A) : Prop where
  f0 : -9223372036854775808 ≤ a.2.1
  f1 : a.2.1 < 9223372036854775808
  v0 : 0 ≤ a.2.2
  v1 : a.2.2 < 18446744073709551616
abbrev AWs (l : List A) : Prop := ∀ a ∈ l, AW a

def placeV (k : Int) : Int := if k = 4 then 1 else if k = 3 then 2 else if k = 5 then 3 else if k = 2 then 4 else if k = 1 then 5 else 0
def cmpV (x y : Int) : Int := if x < y then -1 else if y < x then 1 else 0
def bpV (a b : A) : Int := if a.1 = 5 ∧ b.1 = 5 then cmpV a.2.1 b.2.1 else cmpV (placeV a.1) (placeV b.1)
def kap (a : A) : Int := placeV a.1 * 36893488147419103232 + (if a.1 = 5 then a.2.1 else 0)
def knownB (a : A) : Bool := !(placeV a.1 == 0)
def knownL (l : List A) : List A := l.filter knownB
def mergeV (l : List A) : List A := lastOf kap (isort kap (knownL l))

theorem place_five (k : Int) : placeV k = 3 ↔ k = 5 := by unfold placeV; (repeat' split) <;> omega
theorem place_range (k : Int) : 0 ≤ placeV k ∧ placeV k ≤ 5 := by unfold placeV; (repeat' split) <;> omega
theorem cmpV_lt (x y : Int) : cmpV x y < 0 ↔ x < y := by unfold cmpV; (repeat' split) <;> omega
theorem cmpV_eq (x y : Int) : cmpV x y = 0 ↔ x = y := by unfold cmpV; (repeat' split) <;> omega
theorem kap_lt {a b : A} (ha : AW a) (hb : AW b) : kap a < kap b ↔ (placeV a.1 < placeV b.1 ∨ placeV a.1 = placeV b.1 ∧ a.1 = 5 ∧ a.2.1 < b.2.1) := by
  obtain ⟨a0, a1, _, _⟩ := ha
  obtain ⟨b0, b1, _, _⟩ := hb
  have p1 := place_range a.1
  have p2 := place_range b.1
  have f1 := place_five a.1
  have f2 := place_five b.1
  unfold kap
  by_cases h1 : a.1 = 5
  · rw [if_pos h1]
    by_cases h2 : b.1 = 5
    · rw [if_pos h2]; omega
    · rw [if_neg h2]; omega
  · rw [if_neg h1]
    by_cases h2 : b.1 = 5
    · rw [if_pos h2]; omega
    · rw [if_neg h2]; omega
theorem kap_eq {a b : A} (ha : AW a) (hb : AW b) : kap a = kap b ↔ (placeV a.1 = placeV b.1 ∧ (a.1 = 5 → a.2.1 = b.2.1)) := by
  obtain ⟨a0, a1, _, _⟩ := ha
  obtain ⟨b0, b1, _, _⟩ := hb
  have p1 := place_range a.1
  have p2 := place_range b.1
  have f1 := place_five a.1
  have f2 := place_five b.1
  unfold kap
  by_cases h1 : a.1 = 5
  · rw [if_pos h1]
    by_cases h2 : b.1 = 5
    · rw [if_pos h2]; omega
    · rw [if_neg h2]; omega
  · rw [if_neg h1]
    by_cases h2 : b.1 = 5
    · rw [if_pos h2]; omega
    · rw [if_neg h2]; omega
theorem bpV_lt {a b : A} (ha : AW a) (hb : AW b) : bpV a b < 0 ↔ kap a < kap b := by
  rw [kap_lt ha hb]
  have f1 := place_five a.1
  have f2 := place_five b.1
  unfold bpV
  split
  · next h => rw [cmpV_lt]; omega
  · next h => rw [cmpV_lt]; omega
theorem bpV_eq {a b : A} (ha : AW a) (hb : AW b) : bpV a b = 0 ↔ kap a = kap b := by
  rw [kap_eq ha hb]
  have f1 := place_five a.1
  have f2 := place_five b.1
  unfold bpV
  split
  · next h => rw [cmpV_eq]; omega
  · next h => rw [cmpV_eq]; omega

theorem mem_isort (l : List A) (z : A) : z ∈ isort kap l ↔ z ∈ l := by
  have h := isort_fc (κ := kap) l (kap z)
  have e : ∀ m : List A, z ∈ m ↔ z ∈ fc kap (kap z) m := fun m => by simp [fc]
  rw [e, h, ← e]
theorem mem_merge {l : List A} {z : A} (h : z ∈ mergeV l) : z ∈ l ∧ knownB z = true := by
  have := (mem_isort _ _).1 (lastOf_mem _ z h)
  exact List.mem_filter.1 this
theorem merge_aws {l : List A} (h : AWs l) : AWs (mergeV l) := fun z hz => h z (mem_merge hz).1
theorem merge_strict (l : List A) : (mergeV l).Pairwise (fun x y => kap x < kap y) := (lastOf_order _ (isort_sorted _)).1
theorem merge_fc (l : List A) (c : Int) : fc kap c (mergeV l) = lastL (fc kap c (knownL l)) := by
  unfold mergeV
  rw [(lastOf_order _ (isort_sorted _)).2 c, isort_fc]
theorem merge_is {l m : List A} (h : m.Pairwise (fun x y => kap x ≤ kap y)) (g : ∀ c, fc kap c m = lastL (fc kap c (knownL l))) : m = mergeV l :=
  order_one _ _ (lt_le (merge_strict l)) h fun c => by rw [g, merge_fc]
theorem merge_known (l : List A) : knownL (mergeV l) = mergeV l := List.filter_eq_self.2 fun _ h => (mem_merge h).2
theorem known_append (l m : List A) : knownL (l ++ m) = knownL l ++ knownL m := List.filter_append ..
theorem fc_append (c : Int) (l m : List A) : fc kap c (l ++ m) = fc kap c l ++ fc kap c m := List.filter_append ..
theorem merge_merge (l m : List A) : mergeV (mergeV l ++ m) = mergeV (l ++ m) := by
  apply merge_is (lt_le (merge_strict _))
  intro c
  rw [merge_fc, known_append, merge_known, fc_append, merge_fc, lastL_last, known_append, fc_append]
theorem merge_self (l : List A) : mergeV (mergeV l ++ mergeV l) = mergeV l := by
  symm
  apply merge_is (lt_le (merge_strict _))
  intro c
  rw [known_append, merge_known, fc_append, merge_fc]
  unfold lastL
  cases (fc kap c (knownL l)).getLast? <;> rfl

/-- The document's Merge. -/
def aheadB (a b : A) : Bool := decide (placeV a.1 < placeV b.1) || (decide (placeV a.1 = placeV b.1) && (decide (a.1 = 5) && decide (a.2.1 < b.2.1)))
def alikeB (a b : A) : Bool := decide (a.1 = b.1) && (!decide (a.1 = 5) || decide (a.2.1 = b.2.1))
def insR (x : A) : List A → List A
  | [] => [x]
  | y :: t => if aheadB y x = true then y :: insR x t else x :: y :: t
def lastIn (x : A) (rest : List A) : Bool := knownB x && rest.all fun y => !alikeB x y
def rmergeGo : List A → List A → List A
  | out, [] => out
  | out, x :: rest => if lastIn x rest = true then rmergeGo (insR x out) rest else rmergeGo out rest
theorem ahead_iff {a b : A} (ha : AW a) (hb : AW b) : aheadB a b = true ↔ kap a < kap b := by
  rw [kap_lt ha hb]; unfold aheadB; simp
theorem known_place {a : A} : knownB a = true ↔ placeV a.1 ≠ 0 := by unfold knownB; simp
theorem place_inj {j k : Int} (h : placeV j = placeV k) (g : placeV j ≠ 0) : j = k := by
  unfold placeV at h g
  revert h g
  (repeat' split) <;> omega
theorem alike_iff {a b : A} (ha : AW a) (hb : AW b) (hk : knownB a = true) : alikeB a b = true ↔ kap a = kap b := by
  rw [kap_eq ha hb]
  have := known_place.1 hk
  unfold alikeB
  simp only [Bool.and_eq_true, Bool.or_eq_true, decide_eq_true_eq, Bool.not_eq_true', decide_eq_false_iff_not]
  constructor
  · rintro ⟨h1, h2⟩
    refine ⟨by rw [h1], fun h5 => ?_⟩
    rcases h2 with h2 | h2
    · exact absurd h5 h2
    · exact h2
  · rintro ⟨h1, h2⟩
    refine ⟨place_inj h1 this, ?_⟩
    by_cases h5 : a.1 = 5
    · exact .inr (h2 h5)
    · exact .inl h5
theorem mem_insR (x : A) : ∀ (l : List A) (z : A), z ∈ insR x l ↔ z = x ∨ z ∈ l
  | [], z => by simp [insR]
  | y :: t, z => by
    unfold insR
    split
    · rw [List.mem_cons, mem_insR x t z, List.mem_cons]
      constructor
      · rintro (h | h | h) <;> simp [h]
      · rintro (h | h | h) <;> simp [h]
    · rw [List.mem_cons]
theorem insR_sorted (x : A) (hx : AW x) : ∀ (l : List A), AWs l → l.Pairwise (fun x y => kap x ≤ kap y) → (insR x l).Pairwise (fun x y => kap x ≤ kap y)
  | [], _, _ => by simp [insR]
  | y :: t, hw, h => by
    unfold insR
    obtain ⟨h1, h2⟩ := List.pairwise_cons.1 h
    have ha := ahead_iff (hw y List.mem_cons_self) hx
    split
    · next hk =>
      have := ha.1 hk
      refine List.pairwise_cons.2 ⟨fun z hz => ?_, insR_sorted x hx t (fun z hz => hw z (List.mem_cons_of_mem _ hz)) h2⟩
      rcases (mem_insR x t z).1 hz with e | e
      · rw [e]; omega
      · exact h1 z e
    · next hk =>
      have : ¬ kap y < kap x := fun g => hk (ha.2 g)
      refine List.pairwise_cons.2 ⟨fun z hz => ?_, h⟩
      rcases List.mem_cons.1 hz with e | e
      · rw [e]; omega
      · have := h1 z e; omega
theorem insR_other (x : A) (c : Int) (hc : kap x ≠ c) : ∀ (l : List A), fc kap c (insR x l) = fc kap c l
  | [] => by simp [insR, hc]
  | y :: t => by
    unfold insR
    split
    · have ih := insR_other x c hc t
      simp only [fc, List.filter_cons] at ih ⊢
      rw [ih]
    · simp [fc, List.filter_cons, hc]
theorem insR_own (x : A) : ∀ (l : List A), (∀ z ∈ l, kap z ≠ kap x) → fc kap (kap x) (insR x l) = [x]
  | [], _ => by simp [insR]
  | y :: t, h => by
    have hy : kap y ≠ kap x := h y List.mem_cons_self
    unfold insR
    split
    · have ih := insR_own x t fun z hz => h z (List.mem_cons_of_mem _ hz)
      simp only [fc, List.filter_cons] at ih ⊢
      rw [ih]
      simp [hy]
    · have e : fc kap (kap x) (y :: t) = [] := fc_none h
      unfold fc at e ⊢
      rw [List.filter_cons, e]
      simp
theorem rmergeGo_is : ∀ (l out : List A), AWs l → AWs out → out.Pairwise (fun x y => kap x ≤ kap y) → (∀ z ∈ out, ∀ y ∈ l, kap z ≠ kap y) →
    (rmergeGo out l).Pairwise (fun x y => kap x ≤ kap y) ∧ ∀ c, fc kap c (rmergeGo out l) = fc kap c out ++ lastL (fc kap c (knownL l))
  | [], out, _, _, h, _ => ⟨h, fun c => by simp [rmergeGo, knownL, lastL]⟩
  | x :: rest, out, hl, ho, h, hd => by
    have hx := hl x List.mem_cons_self
    have hr : AWs rest := fun z hz => hl z (List.mem_cons_of_mem _ hz)
    have hdr : ∀ z ∈ out, ∀ y ∈ rest, kap z ≠ kap y := fun z hz y hy => hd z hz y (List.mem_cons_of_mem _ hy)
    unfold rmergeGo
    split
    · next hlast =>
      unfold lastIn at hlast
      rw [Bool.and_eq_true, List.all_eq_true] at hlast
      obtain ⟨hk, hno⟩ := hlast
      have hno' : ∀ y ∈ rest, kap x ≠ kap y := fun y hy e => by
        have a1 := (alike_iff hx (hr y hy) hk).2 e
        have := hno y hy
        rw [a1] at this
        exact absurd this (by decide)
      obtain ⟨i1, i2⟩ := rmergeGo_is rest (insR x out) hr (fun z hz => by
        rcases (mem_insR x out z).1 hz with e | e
        · rw [e]; exact hx
        · exact ho z e) (insR_sorted x hx out ho h) (fun z hz y hy => by
        rcases (mem_insR x out z).1 hz with e | e
        · rw [e]; exact hno' y hy
        · exact hdr z e y hy)
      refine ⟨i1, fun c => ?_⟩
      rw [i2 c]
      have ek : knownL (x :: rest) = x :: knownL rest := by unfold knownL; rw [List.filter_cons, if_pos hk]
      rw [ek]
      by_cases q : kap x = c
      · subst q
        rw [insR_own x out fun z hz => hd z hz x List.mem_cons_self]
        have e1 : fc kap (kap x) out = [] := fc_none fun z hz => hd z hz x List.mem_cons_self
        have e2 : fc kap (kap x) (knownL rest) = [] := fc_none fun z hz => (hno' z (List.mem_filter.1 hz).1).symm
        have e3 : fc kap (kap x) (x :: knownL rest) = x :: fc kap (kap x) (knownL rest) := by simp [fc]
        rw [e1, e3, e2]
        rfl
      · rw [insR_other x c q]
        have e3 : fc kap c (x :: knownL rest) = fc kap c (knownL rest) := by simp [fc, q]
        rw [e3]
    · next hlast =>
      obtain ⟨i1, i2⟩ := rmergeGo_is rest out hr ho h hdr
      refine ⟨i1, fun c => ?_⟩
      rw [i2 c]
      congr 1
      by_cases hk : knownB x = true
      · have ek : knownL (x :: rest) = x :: knownL rest := by unfold knownL; rw [List.filter_cons, if_pos hk]
        rw [ek]
        by_cases q : kap x = c
        · have e3 : fc kap c (x :: knownL rest) = x :: fc kap c (knownL rest) := by simp [fc, q]
          rw [e3, lastL_cons]
          intro hnil
          apply hlast
          unfold lastIn
          rw [Bool.and_eq_true, List.all_eq_true]
          refine ⟨hk, fun y hy => ?_⟩
          cases ha : alikeB x y with
          | false => rfl
          | true =>
            have e := (alike_iff hx (hr y hy) hk).1 ha
            have hky : knownB y = true := by
              have h1 := known_place.1 hk
              have h2 := ((kap_eq hx (hr y hy)).1 e).1
              exact known_place.2 (by rw [← h2]; exact h1)
            have : y ∈ fc kap c (knownL rest) := List.mem_filter.2 ⟨List.mem_filter.2 ⟨hy, hky⟩, by simp [← e, q]⟩
            rw [hnil] at this
            cases this
        · have e3 : fc kap c (x :: knownL rest) = fc kap c (knownL rest) := by simp [fc, q]
          rw [e3]
      · have ek : knownL (x :: rest) = knownL rest := by unfold knownL; rw [List.filter_cons, if_neg hk]
        rw [ek]
theorem rmerge_is (l : List A) (h : AWs l) : rmergeGo [] l = mergeV l := by
  obtain ⟨h1, h2⟩ := rmergeGo_is l [] h (by simp) List.Pairwise.nil (by simp)
  exact merge_is h1 fun c => by rw [h2 c]; rfl
end Go.Proofs.YtmlonfchbkmbcabDoor
