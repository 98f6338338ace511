/-
  Which switches are joined, and which can be come to: plain lists and numbers.
-/
import Derived.Test.YtcjojcaahpkacaaPure
namespace Go.Proofs.Ytcjojcaahpkacaa
set_option linter.unusedVariables false
/-- Two switches that a link joins that is not down. -/
def Adj (L : List Lk) (down : List Int) (y z : Int) : Prop := ∃ i, ∃ h : i < L.length, ((i : Int) + 1) ∉ down ∧ 0 < L[i].b ∧ (L[i].a = y ∧ L[i].b = z ∨ L[i].b = y ∧ L[i].a = z)
theorem Adj.symm {L : List Lk} {down : List Int} {y z : Int} (h : Adj L down y z) : Adj L down z y := by
  obtain ⟨i, hi, h1, h2, h3⟩ := h
  exact ⟨i, hi, h1, h2, h3.elim (fun h => .inr ⟨h.2, h.1⟩) (fun h => .inl ⟨h.2, h.1⟩)⟩
/-- What can be come to from s. -/
def Rch (L : List Lk) (down : List Int) (s x : Int) : Prop := ∀ C : Int → Prop, C s → (∀ y z, C y → Adj L down y z → C z) → C x
theorem Rch.refl (L : List Lk) (down : List Int) (s : Int) : Rch L down s s := fun C h _ => h
theorem Rch.step {L : List Lk} {down : List Int} {s y z : Int} (h : Rch L down s y) (k : Adj L down y z) : Rch L down s z := fun C h0 hs => hs y z (h C h0 hs) k
theorem Rch.trans {L : List Lk} {down : List Int} {s y z : Int} (h : Rch L down s y) (k : Rch L down y z) : Rch L down s z := k (Rch L down s) h (fun _ _ a b => a.step b)
theorem Rch.symm {L : List Lk} {down : List Int} {s y : Int} (h : Rch L down s y) : Rch L down y s :=
  h (fun x => Rch L down x s) (Rch.refl L down s) (fun a b ha hab => (((Rch.refl L down b).step hab.symm)).trans ha)
/-- A set that holds s, only what can be come to, and all that its own are joined with, is all that can be come to. -/
theorem rch_closed {L : List Lk} {down : List Int} {s : Int} (zs : List Int) (h0 : s ∈ zs) (h1 : ∀ x ∈ zs, Rch L down s x) (h2 : ∀ y ∈ zs, ∀ z, Adj L down y z → z ∈ zs) (x : Int) : x ∈ zs ↔ Rch L down s x :=
  ⟨h1 x, fun h => h (fun x => x ∈ zs) h0 (fun y z hy hz => h2 y hy z hz)⟩

theorem peerF_spec : ∀ (l : List Lk) (i : Nat) (s p : Int), (peerF i l s p).2.2 ≠ 0 → ∃ j, ∃ h : j < l.length, (peerF i l s p).2.2 = (i : Int) + j + 1 ∧
    ((l[j].a = s ∧ l[j].p = p ∧ (peerF i l s p).1 = l[j].b ∧ (peerF i l s p).2.1 = l[j].q) ∨ (l[j].b = s ∧ 0 < l[j].b ∧ l[j].q = p ∧ (peerF i l s p).1 = l[j].a ∧ (peerF i l s p).2.1 = l[j].p))
  | [], i, s, p, h => by simp [peerF] at h
  | x :: l, i, s, p, h => by
    unfold peerF at h ⊢
    by_cases h1 : x.a = s ∧ x.p = p
    · refine ⟨0, by simp, ?_⟩
      rw [if_pos h1]
      exact ⟨by simp, .inl ⟨h1.1, h1.2, rfl, rfl⟩⟩
    · rw [if_neg h1] at h ⊢
      by_cases h2 : x.b = s ∧ 0 < x.b ∧ x.q = p
      · refine ⟨0, by simp, ?_⟩
        rw [if_pos h2]
        exact ⟨by simp, .inr ⟨h2.1, h2.2.1, h2.2.2, rfl, rfl⟩⟩
      · rw [if_neg h2] at h ⊢
        obtain ⟨j, hj, e, r⟩ := peerF_spec l (i + 1) s p h
        refine ⟨j + 1, by simp; omega, by rw [e]; omega, ?_⟩
        simpa using r
theorem homeF_spec : ∀ (l : List Lk) (i : Nat) (h : Int), (homeF i l h).2.2 ≠ 0 → ∃ j, ∃ hj : j < l.length, (homeF i l h).2.2 = (i : Int) + j + 1 ∧ l[j].b = -h ∧ (homeF i l h).1 = l[j].a ∧ (homeF i l h).2.1 = l[j].p
  | [], i, h, k => by simp [homeF] at k
  | x :: l, i, h, k => by
    unfold homeF at k ⊢
    by_cases h1 : x.b = -h
    · refine ⟨0, by simp, ?_⟩
      rw [if_pos h1]
      exact ⟨by simp, h1, rfl, rfl⟩
    · rw [if_neg h1] at k ⊢
      obtain ⟨j, hj, e, r⟩ := homeF_spec l (i + 1) h k
      refine ⟨j + 1, by simp; omega, by rw [e]; omega, ?_⟩
      simpa using r
theorem peerF_append (s p : Int) : ∀ (l m : List Lk) (i : Nat), (peerF i l s p).2.2 ≠ 0 → peerF i (l ++ m) s p = peerF i l s p
  | [], m, i, h => by simp [peerF] at h
  | x :: l, m, i, h => by
    rw [List.cons_append]
    unfold peerF at h ⊢
    split
    · rfl
    · rename_i h1
      rw [if_neg h1] at h
      split
      · rfl
      · rename_i h2
        rw [if_neg h2] at h
        exact peerF_append s p l m (i + 1) h
theorem homeF_append (k : Int) : ∀ (l m : List Lk) (i : Nat), (homeF i l k).2.2 ≠ 0 → homeF i (l ++ m) k = homeF i l k
  | [], m, i, h => by simp [homeF] at h
  | x :: l, m, i, h => by
    rw [List.cons_append]
    unfold homeF at h ⊢
    split
    · rfl
    · rename_i h1
      rw [if_neg h1] at h
      exact homeF_append k l m (i + 1) h
/-- Each link's ends lead to each other. -/
theorem good_ends {n : Int} {L : List Lk} (h : goodF n [] L = true) (k : Nat) (hk : k < L.length) :
    peerF 0 L L[k].a L[k].p = (L[k].b, L[k].q, (k : Int) + 1) ∧ (0 < L[k].b → peerF 0 L L[k].b L[k].q = (L[k].a, L[k].p, (k : Int) + 1)) ∧ (L[k].b < 0 → homeF 0 L (-L[k].b) = (L[k].a, L[k].p, (k : Int) + 1)) := by
  obtain ⟨hm, ht⟩ := good_mid h k hk
  obtain ⟨_, _, _, hb⟩ := mayB_true hm
  have hne : L[k].b ≠ L[k].a := by
    have := (mayB_true hm).1
    rcases hb with hb | hb
    · omega
    · exact hb.1
  unfold takenB at ht
  simp only [Bool.or_eq_false_iff, Bool.and_eq_false_iff, decide_eq_false_iff_not] at ht
  obtain ⟨⟨k1, k2⟩, k3⟩ := ht
  have eL : L = (L.take k ++ [L[k]]) ++ L.drop (k + 1) := by rw [← List.take_succ_eq_append_getElem hk, List.take_append_drop]
  have lt : (L.take k).length = k := by rw [List.length_take]; omega
  generalize L[k] = x at *
  have z1 : (peerF 0 (L.take k) x.a x.p).2.2 = 0 := by have := (peerF_link (L.take k) 0 x.a x.p).1; omega
  have p1 : peerF 0 (L.take k ++ [x]) x.a x.p = (x.b, x.q, (k : Int) + 1) := by
    rw [peerF_snoc, if_pos z1, lt, Nat.zero_add]
    unfold peer1
    rw [if_pos ⟨rfl, rfl⟩]
  refine ⟨?_, fun h0 => ?_, fun h0 => ?_⟩
  · rw [eL, peerF_append _ _ _ _ _ (by rw [p1]; simp; omega), p1]
  · have z2 : (peerF 0 (L.take k) x.b x.q).2.2 = 0 := by have := (peerF_link (L.take k) 0 x.b x.q).1; omega
    have p2 : peerF 0 (L.take k ++ [x]) x.b x.q = (x.a, x.p, (k : Int) + 1) := by
      rw [peerF_snoc, if_pos z2, lt, Nat.zero_add]
      unfold peer1
      rw [if_neg (by omega), if_pos ⟨rfl, h0, rfl⟩]
    rw [eL, peerF_append _ _ _ _ _ (by rw [p2]; simp; omega), p2]
  · have z3 : (homeF 0 (L.take k) (-x.b)).2.2 = 0 := by have := (homeF_link (L.take k) 0 (-x.b)).1; omega
    have p3 : homeF 0 (L.take k ++ [x]) (-x.b) = (x.a, x.p, (k : Int) + 1) := by
      rw [homeF_snoc, if_pos z3, lt, Nat.zero_add]
      unfold home1
      rw [if_pos (by omega)]
    rw [eL, homeF_append _ _ _ _ (by rw [p3]; simp; omega), p3]
theorem adj_peer {n : Int} {L : List Lk} (h : goodF n [] L = true) (down : List Int) (y z : Int) :
    Adj L down y z ↔ ∃ p, 1 ≤ p ∧ p ≤ 16 ∧ (peerF 0 L y p).2.2 ≠ 0 ∧ (peerF 0 L y p).2.2 ∉ down ∧ (peerF 0 L y p).1 = z ∧ 1 ≤ z := by
  constructor
  · rintro ⟨i, hi, h1, h2, h3⟩
    obtain ⟨e1, e2, _⟩ := good_ends h i hi
    obtain ⟨⟨a1, a2⟩, ⟨p1, p2⟩, _, hb⟩ := mayB_true (good_mid h i hi).1
    rcases hb with hb | ⟨_, ⟨b1, b2⟩, q1, q2⟩
    · omega
    rcases h3 with ⟨rfl, rfl⟩ | ⟨rfl, rfl⟩
    · refine ⟨_, p1, p2, ?_⟩
      rw [e1]
      exact ⟨by simp; omega, h1, rfl, b1⟩
    · refine ⟨_, q1, q2, ?_⟩
      rw [e2 h2]
      exact ⟨by simp; omega, h1, rfl, a1⟩
  · rintro ⟨p, p1, p2, h1, h2, rfl, h3⟩
    obtain ⟨j, hj, e, r⟩ := peerF_spec L 0 y p h1
    rw [e] at h2
    rcases r with ⟨r1, r2, r3, r4⟩ | ⟨r1, r2, r3, r4, r5⟩
    · rw [r3] at h3 ⊢
      exact ⟨j, hj, by simpa using h2, h3, .inl ⟨r1, rfl⟩⟩
    · rw [r4]
      exact ⟨j, hj, by simpa using h2, r2, .inr ⟨r1, rfl⟩⟩
theorem adj_in {n : Int} {L : List Lk} (h : goodF n [] L = true) {down : List Int} {y z : Int} (k : Adj L down y z) : (1 ≤ y ∧ y ≤ n) ∧ 1 ≤ z ∧ z ≤ n := by
  obtain ⟨i, hi, h1, h2, h3⟩ := k
  obtain ⟨⟨a1, a2⟩, ⟨p1, p2⟩, _, hb⟩ := mayB_true (good_mid h i hi).1
  rcases hb with hb | ⟨_, ⟨b1, b2⟩, q1, q2⟩
  · omega
  rcases h3 with ⟨rfl, rfl⟩ | ⟨rfl, rfl⟩
  · exact ⟨⟨a1, a2⟩, b1, b2⟩
  · exact ⟨⟨b1, b2⟩, a1, a2⟩
/-- Is a link there, and not down? -/
def upB (m : Nat) (down : List Int) (k : Int) : Bool := inB k 1 m && !down.contains k
end Go.Proofs.Ytcjojcaahpkacaa
