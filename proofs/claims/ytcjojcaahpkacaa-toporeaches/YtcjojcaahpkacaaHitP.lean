/-
  The document's words on which links may be: plain lists and numbers.
-/
import Derived.Test.YtcjojcaahpkacaaGraph
namespace Go.Proofs.Ytcjojcaahpkacaa
set_option linter.unusedVariables false
def usesB (y : Lk) (s p : Int) : Bool := decide (y.a = s ∧ y.p = p) || decide (y.b = s ∧ y.q = p)
def hitB (y x : Lk) : Bool := usesB y x.a x.p || (decide (0 < x.b) && usesB y x.b x.q) || (decide (x.b < 0) && decide (y.b = x.b))
def c1B (n : Int) (x : Lk) : Bool := inB x.a 1 n && inB x.p 1 16 && decide (x.b ≠ x.a) && decide (x.b ≠ 0) && inB x.b (-64) n
def c2B (x : Lk) : Bool := !(decide (0 < x.b) && !inB x.q 1 16) && !(decide (x.b < 0) && decide (x.q ≠ 0)) && (costLo x.c && costHi x.c)
theorem may_eq (n : Int) (x : Lk) (hn : n ≤ 32) : mayB n x = (c1B n x && c2B x) := by
  unfold mayB c1B c2B costB
  generalize (costLo x.c && costHi x.c) = C
  rw [Bool.eq_iff_iff]
  simp only [Bool.and_eq_true, inB_true, Bool.not_eq_true', Bool.and_eq_false_iff, decide_eq_false_iff_not, decide_eq_true_eq, Bool.not_eq_false', inB_true]
  by_cases hb : -64 ≤ x.b ∧ x.b ≤ -1
  · rw [if_pos hb]
    simp only [decide_eq_true_eq]
    constructor
    · rintro ⟨⟨⟨h1, h2⟩, h3⟩, h4⟩
      refine ⟨⟨⟨⟨⟨h1, h2⟩, by omega⟩, by omega⟩, by omega⟩, ⟨.inl (by omega), .inr (by omega)⟩, h3⟩
    · rintro ⟨⟨⟨⟨⟨h1, h2⟩, h3⟩, h4⟩, h5⟩, ⟨h6, h7⟩, h8⟩
      exact ⟨⟨⟨h1, h2⟩, h8⟩, by omega⟩
  · rw [if_neg hb]
    simp only [Bool.and_eq_true, decide_eq_true_eq, inB_true]
    constructor
    · rintro ⟨⟨⟨h1, h2⟩, h3⟩, ⟨h4, h5⟩, h6⟩
      exact ⟨⟨⟨⟨⟨h1, h2⟩, h4⟩, by omega⟩, by omega⟩, ⟨.inr h6, .inl (by omega)⟩, h3⟩
    · rintro ⟨⟨⟨⟨⟨h1, h2⟩, h3⟩, h4⟩, h5⟩, ⟨h6, h7⟩, h8⟩
      exact ⟨⟨⟨h1, h2⟩, h8⟩, ⟨h3, by omega⟩, by omega⟩
theorem peer_none (s p : Int) : ∀ (l : List Lk) (i : Nat), (peerF i l s p).2.2 = 0 ↔ ∀ y ∈ l, ¬ (y.a = s ∧ y.p = p) ∧ ¬ (y.b = s ∧ 0 < y.b ∧ y.q = p)
  | [], i => by simp [peerF]
  | x :: l, i => by
    unfold peerF
    by_cases h1 : x.a = s ∧ x.p = p
    · rw [if_pos h1]
      constructor
      · intro h; simp at h; omega
      · intro h; exact absurd h1 (h x (by simp)).1
    · rw [if_neg h1]
      by_cases h2 : x.b = s ∧ 0 < x.b ∧ x.q = p
      · rw [if_pos h2]
        constructor
        · intro h; simp at h; omega
        · intro h; exact absurd h2 (h x (by simp)).2
      · rw [if_neg h2, peer_none s p l (i + 1)]
        simp only [List.mem_cons, forall_eq_or_imp]
        exact ⟨fun h => ⟨⟨h1, h2⟩, h⟩, fun h => h.2⟩
theorem home_none (k : Int) : ∀ (l : List Lk) (i : Nat), (homeF i l k).2.2 = 0 ↔ ∀ y ∈ l, y.b ≠ -k
  | [], i => by simp [homeF]
  | x :: l, i => by
    unfold homeF
    by_cases h1 : x.b = -k
    · rw [if_pos h1]
      constructor
      · intro h; simp at h; omega
      · intro h; exact absurd h1 (h x (by simp))
    · rw [if_neg h1, home_none k l (i + 1)]
      simp only [List.mem_cons, forall_eq_or_imp]
      exact ⟨fun h => ⟨h1, h⟩, fun h => h.2⟩
theorem taken_hit {n : Int} {L : List Lk} {x : Lk} (hx : mayB n x = true) : takenB L x = false ↔ ∀ y ∈ L, hitB y x = false := by
  obtain ⟨⟨a1, a2⟩, ⟨p1, p2⟩, _, hb⟩ := mayB_true hx
  have e1 := peer_none x.a x.p L 0
  have e2 := peer_none x.b x.q L 0
  have e3 := home_none (-x.b) L 0
  have n1 := (peerF_link L 0 x.a x.p).1
  have n2 := (peerF_link L 0 x.b x.q).1
  have n3 := (homeF_link L 0 (-x.b)).1
  unfold takenB
  simp only [Bool.or_eq_false_iff, Bool.and_eq_false_iff, decide_eq_false_iff_not]
  have f1 : (¬ 0 < (peerF 0 L x.a x.p).2.2) ↔ (peerF 0 L x.a x.p).2.2 = 0 := by omega
  have f2 : (¬ 0 < (peerF 0 L x.b x.q).2.2) ↔ (peerF 0 L x.b x.q).2.2 = 0 := by omega
  have f3 : (¬ 0 < (homeF 0 L (-x.b)).2.2) ↔ (homeF 0 L (-x.b)).2.2 = 0 := by omega
  rw [f1, f2, f3, e1, e2, e3]
  unfold hitB usesB
  simp only [Bool.or_eq_false_iff, Bool.and_eq_false_iff, decide_eq_false_iff_not]
  constructor
  · rintro ⟨⟨h1, h2⟩, h3⟩ y hy
    have q1 := h1 y hy
    refine ⟨⟨⟨q1.1, fun e => q1.2 ⟨e.1, by omega, e.2⟩⟩, ?_⟩, ?_⟩
    · rcases h2 with h2 | h2
      · exact .inl h2
      · by_cases h0 : 0 < x.b
        · have q2 := h2 y hy
          exact .inr ⟨q2.1, fun e => q2.2 ⟨e.1, by omega, e.2⟩⟩
        · exact .inl h0
    · rcases h3 with h3 | h3
      · exact .inl h3
      · have := h3 y hy
        exact .inr (by omega)
  · intro h
    refine ⟨⟨fun y hy => ?_, ?_⟩, ?_⟩
    · have q := (h y hy).1.1
      exact ⟨q.1, fun e => q.2 ⟨e.1, e.2.2⟩⟩
    · by_cases h0 : 0 < x.b
      · right
        intro y hy
        rcases (h y hy).1.2 with q | q
        · exact absurd h0 q
        · exact ⟨q.1, fun e => q.2 ⟨e.1, e.2.2⟩⟩
      · exact .inl h0
    · by_cases h0 : x.b < 0
      · right
        intro y hy
        rcases (h y hy).2 with q | q
        · exact absurd h0 q
        · omega
      · exact .inl h0
end Go.Proofs.Ytcjojcaahpkacaa
