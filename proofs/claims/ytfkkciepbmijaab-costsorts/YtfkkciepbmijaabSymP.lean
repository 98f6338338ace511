/-
  One action moved to its place among others that are in order; the search for that place: the plain mathematics (nothing of the program).
-/
import Derived.Test.YtfkkciepbmijaabRot
namespace Go.Proofs.Ytfkkciepbmijaab
section
variable {κ : A → Int}

/-- The action at a has come to k. -/
structure MvR (κ : A → Int) (a c k : Nat) (d dk : List A) : Prop where
  rel : Rel κ a c d dk
  own : ka κ dk k = ka κ d a
  left : ∀ t, a ≤ t → t < k → ka κ dk t = ka κ d (t + 1)
  right : ∀ t, k < t → ka κ dk t = ka κ d t
theorem MvR.start (a c : Nat) (d : List A) : MvR κ a c a d d := ⟨Rel.refl _ _ _, rfl, fun t h1 h2 => by omega, fun _ _ => rfl⟩
theorem MvR.step {a c k : Nat} {d dk : List A} (h : MvR κ a c k d dk) (ha : a ≤ k) (hc : k + 2 ≤ c) (hl : c ≤ d.length) (hlt : ka κ d (k + 1) < ka κ d a) : MvR κ a c (k + 1) d (swp dk k (k + 1)) := by
  have hlen : k + 1 < dk.length := by rw [h.rel.len]; omega
  have e1 := h.own
  have e2 := h.right (k + 1) (by omega)
  obtain ⟨r, es⟩ := rel_swap (κ := κ) dk k hlen (by rw [e1, e2]; omega) a c ha hc
  have K := fun t => ka_swap (κ := κ) dk k t hlen
  rw [← es]
  refine ⟨h.rel.trans r, ?_, fun t h1 h2 => ?_, fun t h1 => ?_⟩
  · rw [K, if_neg (by omega), if_pos rfl, e1]
  · rw [K]
    by_cases q : k = t
    · rw [if_pos q, e2, q]
    · rw [if_neg q, if_neg (by omega)]
      exact h.left t h1 (by omega)
  · rw [K, if_neg (by omega), if_neg (by omega)]
    exact h.right t (by omega)
theorem MvR.done {a c i : Nat} {d dk : List A} (h : MvR κ a c (i - 1) d dk) (ha : a < i) (hic : i ≤ c) (s : Srt κ (a + 1) c d) (lo : ∀ t, a + 1 ≤ t → t < i → ka κ d t < ka κ d a) (hi : ∀ t, i ≤ t → t < c → ka κ d a ≤ ka κ d t) : Srt κ a c dk := by
  intro p q h1 h2 h3
  by_cases c1 : q < i - 1
  · rw [h.left p h1 (by omega), h.left q (by omega) c1]
    exact s _ _ (by omega) (by omega) (by omega)
  · by_cases c2 : q = i - 1
    · subst c2
      rw [h.own, h.left p h1 h2]
      exact Int.le_of_lt (lo _ (by omega) (by omega))
    · rw [h.right q (by omega)]
      by_cases c3 : p < i - 1
      · rw [h.left p h1 c3]
        exact Int.le_trans (Int.le_of_lt (lo _ (by omega) (by omega))) (hi q (by omega) h3)
      · by_cases c4 : p = i - 1
        · subst c4
          rw [h.own]
          exact hi q (by omega) h3
        · rw [h.right p (by omega)]
          exact s p q (by omega) h2 h3
/-- The action at m has come to k. -/
structure MvL (κ : A → Int) (a m k : Nat) (d dk : List A) : Prop where
  rel : Rel κ a (m + 1) d dk
  own : ka κ dk k = ka κ d m
  right : ∀ t, k < t → t ≤ m → ka κ dk t = ka κ d (t - 1)
  left : ∀ t, t < k → ka κ dk t = ka κ d t
theorem MvL.start (a m : Nat) (d : List A) : MvL κ a m m d d := ⟨Rel.refl _ _ _, rfl, fun t h1 h2 => by omega, fun _ _ => rfl⟩
theorem MvL.step {a m k : Nat} {d dk : List A} (h : MvL κ a m (k + 1) d dk) (ha : a ≤ k) (hm : k + 1 ≤ m) (hl : m < d.length) (hlt : ka κ d m < ka κ d k) : MvL κ a m k d (swp dk (k + 1) k) := by
  have hlen : k + 1 < dk.length := by rw [h.rel.len]; omega
  have e1 := h.own
  have e2 := h.left k (by omega)
  obtain ⟨r, _⟩ := rel_swap (κ := κ) dk k hlen (by rw [e1, e2]; omega) a (m + 1) ha (by omega)
  have K := fun t => ka_swap (κ := κ) dk k t hlen
  refine ⟨h.rel.trans r, ?_, fun t h1 h2 => ?_, fun t h1 => ?_⟩
  · rw [K, if_pos rfl, e1]
  · rw [K, if_neg (by omega)]
    by_cases q : k + 1 = t
    · rw [if_pos q, e2, ← q]; rfl
    · rw [if_neg q]
      exact h.right t (by omega) h2
  · rw [K, if_neg (by omega), if_neg (by omega)]
    exact h.left t (by omega)
theorem MvL.done {a m i : Nat} {d dk : List A} (h : MvL κ a m i d dk) (ha : a ≤ i) (hi : i ≤ m) (s : Srt κ a m d) (lo : ∀ t, a ≤ t → t < i → ka κ d t ≤ ka κ d m) (hg : ∀ t, i ≤ t → t < m → ka κ d m < ka κ d t) : Srt κ a (m + 1) dk := by
  intro p q h1 h2 h3
  by_cases c1 : q < i
  · rw [h.left p (by omega), h.left q c1]
    exact s _ _ h1 h2 (by omega)
  · by_cases c2 : q = i
    · subst c2
      rw [h.own, h.left p h2]
      exact lo p h1 h2
    · rw [h.right q (by omega) (by omega)]
      by_cases c3 : p < i
      · rw [h.left p c3]
        by_cases c5 : p = q - 1
        · rw [c5]; exact Int.le_refl _
        · exact s p (q - 1) h1 (by omega) (by omega)
      · by_cases c4 : p = i
        · subst c4
          rw [h.own]
          exact Int.le_of_lt (hg _ (by omega) (by omega))
        · rw [h.right p (by omega) (by omega)]
          exact s _ _ (by omega) (by omega) (by omega)
/-- The search: what is ahead of i is less, what is from j on is not. -/
structure Fnd (κ : A → Int) (m c i j : Nat) (d : List A) (v : Int) : Prop where
  hi : m ≤ i
  hij : i ≤ j
  hj : j ≤ c
  lo : ∀ t, m ≤ t → t < i → ka κ d t < v
  up : ∀ t, j ≤ t → t < c → v ≤ ka κ d t
theorem Fnd.less {m c i j h : Nat} {d : List A} {v : Int} (f : Fnd κ m c i j d v) (s : Srt κ m c d) (h1 : i ≤ h) (h2 : h < j) (hv : ka κ d h < v) : Fnd κ m c (h + 1) j d v :=
  ⟨by have := f.hi; omega, by omega, f.hj, fun t t1 t2 => by
    by_cases e : t = h
    · rw [e]; exact hv
    · have := s t h t1 (by omega) (by have := f.hj; omega); omega, f.up⟩
theorem Fnd.not {m c i j h : Nat} {d : List A} {v : Int} (f : Fnd κ m c i j d v) (s : Srt κ m c d) (h1 : i ≤ h) (hv : ¬ ka κ d h < v) : Fnd κ m c i h d v ∨ c ≤ h := by
  by_cases hc : c ≤ h
  · exact .inr hc
  · refine .inl ⟨f.hi, h1, by omega, f.lo, fun t t1 t2 => ?_⟩
    by_cases e : t = h
    · rw [e]; omega
    · have := s h t (by have := f.hi; omega) (by omega) t2; omega
/-- The same, where what is ahead of i is not greater, and what is from j on is. -/
structure Fnu (κ : A → Int) (m c i j : Nat) (d : List A) (v : Int) : Prop where
  hi : m ≤ i
  hij : i ≤ j
  hj : j ≤ c
  lo : ∀ t, m ≤ t → t < i → ka κ d t ≤ v
  up : ∀ t, j ≤ t → t < c → v < ka κ d t
theorem Fnu.not {m c i j h : Nat} {d : List A} {v : Int} (f : Fnu κ m c i j d v) (s : Srt κ m c d) (h1 : i ≤ h) (h2 : h < j) (hv : ¬ v < ka κ d h) : Fnu κ m c (h + 1) j d v :=
  ⟨by have := f.hi; omega, by omega, f.hj, fun t t1 t2 => by
    by_cases e : t = h
    · rw [e]; omega
    · have := s t h t1 (by omega) (by have := f.hj; omega); omega, f.up⟩
theorem Fnu.less {m c i j h : Nat} {d : List A} {v : Int} (f : Fnu κ m c i j d v) (s : Srt κ m c d) (h1 : i ≤ h) (h2 : h < j) (hv : v < ka κ d h) : Fnu κ m c i h d v :=
  ⟨f.hi, h1, by have := f.hj; omega, f.lo, fun t t1 t2 => by
    by_cases e : t = h
    · rw [e]; exact hv
    · have := s h t (by have := f.hi; omega) (by omega) t2; omega⟩
/-- The search for the turn: ahead of start the two don't cross, from r on they do. -/
structure Sym (κ : A → Int) (a m c mid s0 r0 start r : Nat) (d : List A) : Prop where
  h0 : s0 ≤ start
  h1 : start ≤ r
  h2 : r ≤ r0
  lo : ∀ t, s0 ≤ t → t < start → ka κ d t ≤ ka κ d (mid + m - 1 - t)
  up : ∀ t, r ≤ t → t < r0 → ka κ d (mid + m - 1 - t) < ka κ d t
/-- Where the search begins and ends. -/
structure Rng (a m c mid s0 r0 : Nat) : Prop where
  r1 : a ≤ s0
  r2 : r0 ≤ m
  r3 : ∀ t, s0 ≤ t → t < r0 → m ≤ mid + m - 1 - t ∧ mid + m - 1 - t < c
  r4 : s0 ≤ r0
  r5 : s0 = a ∨ mid + m = c + s0
  r6 : r0 = m ∨ r0 = mid
  r7 : r0 ≤ mid
  r8 : mid + m ≤ c + s0
theorem Sym.not {a m c mid s0 r0 start r x : Nat} {d : List A} (g : Rng a m c mid s0 r0) (f : Sym κ a m c mid s0 r0 start r d) (sa : Srt κ a m d) (sb : Srt κ m c d) (h1 : start ≤ x) (h2 : x < r) (hv : ¬ ka κ d (mid + m - 1 - x) < ka κ d x) : Sym κ a m c mid s0 r0 (x + 1) r d :=
  ⟨by have := f.h0; omega, by omega, f.h2, fun t t1 t2 => by
    by_cases e : t = x
    · rw [e]; omega
    · have b1 := f.h2
      have b2 := g.r2
      have b3 := g.r1
      have b4 := (g.r3 x (by have := f.h0; omega) (by omega)).1
      have b5 := (g.r3 t t1 (by omega)).2
      have := sa t x (by omega) (by omega) (by omega)
      have := sb (mid + m - 1 - x) (mid + m - 1 - t) b4 (by omega) b5
      omega, f.up⟩
theorem Sym.less {a m c mid s0 r0 start r x : Nat} {d : List A} (g : Rng a m c mid s0 r0) (f : Sym κ a m c mid s0 r0 start r d) (sa : Srt κ a m d) (sb : Srt κ m c d) (h1 : start ≤ x) (h2 : x < r) (hv : ka κ d (mid + m - 1 - x) < ka κ d x) : Sym κ a m c mid s0 r0 start x d :=
  ⟨f.h0, h1, by have := f.h2; omega, f.lo, fun t t1 t2 => by
    by_cases e : t = x
    · rw [e]; exact hv
    · have b1 := f.h2
      have b0 := f.h0
      have b2 := g.r2
      have b3 := g.r1
      have b4 := (g.r3 t (by omega) t2).1
      have b5 := (g.r3 x (by omega) (by omega)).2
      have := sa x t (by omega) (by omega) (by omega)
      have := sb (mid + m - 1 - t) (mid + m - 1 - x) b4 (by omega) b5
      omega⟩
/-- What the search finds. -/
theorem Sym.found {a m c mid s0 r0 start : Nat} {d : List A} (g : Rng a m c mid s0 r0) (f : Sym κ a m c mid s0 r0 start start d) (sa : Srt κ a m d) (sb : Srt κ m c d) (hc : c ≤ d.length) :
    a ≤ start ∧ start ≤ m ∧ m ≤ mid + m - start ∧ mid + m - start ≤ c ∧ start ≤ mid ∧ Turned κ a start m mid (mid + m - start) c d (rot start m (mid + m - start) d) := by
  have b0 := f.h0
  have b2 := f.h2
  have q1 := g.r1
  have q2 := g.r2
  have q5 := g.r5
  have q6 := g.r6
  have q7 := g.r7
  have q8 := g.r8
  have a1 : a ≤ start := by omega
  have a2 : start ≤ m := by omega
  have a5 : start ≤ mid := by omega
  have a3 : m ≤ mid + m - start := by omega
  have a4 : mid + m - start ≤ c := by omega
  refine ⟨a1, a2, a3, a4, a5, turned a1 a2 a3 a4 hc (by omega) a5 sa sb (fun h1 h2 => ?_) (fun h1 h2 => ?_)⟩
  · have := f.up start (Nat.le_refl _) (by omega)
    rw [show mid + m - start - 1 = mid + m - 1 - start by omega]
    exact this
  · have := f.lo (start - 1) (by omega) (by omega)
    rw [show mid + m - start = mid + m - 1 - (start - 1) by omega]
    exact this
theorem rng_left {a m c mid : Nat} (h1 : a + 1 < m) (h2 : m + 1 < c) (hm : mid = (a + c) / 2) (h : mid < m) : Rng a m c mid (mid + m - c) mid := by
  constructor
  · omega
  · omega
  · intro t t1 t2; omega
  · omega
  · right; omega
  · right; rfl
  · omega
  · omega
theorem rng_right {a m c mid : Nat} (h1 : a + 1 < m) (h2 : m + 1 < c) (hm : mid = (a + c) / 2) (h : ¬ mid < m) : Rng a m c mid a m := by
  constructor
  · omega
  · omega
  · intro t t1 t2; omega
  · omega
  · left; rfl
  · left; rfl
  · omega
  · omega
end
end Go.Proofs.Ytfkkciepbmijaab
