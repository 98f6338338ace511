/-
  Links, what ports lead to, where hosts are: plain lists and numbers.
-/
import GoSem.Core.Float
namespace Go.Proofs.Ytcjojcaahpkacaa

/-- A link: a switch and its port, another switch (or minus a host) and the port there, the bits of what it costs. -/
structure Lk where
  a : Int
  p : Int
  b : Int
  q : Int
  c : Nat
/-- Is a number within two others? -/
def inB (n lo hi : Int) : Bool := decide (lo ≤ n) && decide (n ≤ hi)
theorem inB_true {n lo hi : Int} : inB n lo hi = true ↔ lo ≤ n ∧ n ≤ hi := by unfold inB; simp
theorem inB_false {n lo hi : Int} : inB n lo hi = false ↔ n < lo ∨ hi < n := by unfold inB; simp; omega
/-- Is a cost from 0 to 1000000000? -/
def costLo (c : Nat) : Bool := FloatKind.f64.format.order c 0 == some .gt || FloatKind.f64.format.order c 0 == some .eq
def costHi (c : Nat) : Bool := FloatKind.f64.format.order c 4741671816366391296 == some .lt || FloatKind.f64.format.order c 4741671816366391296 == some .eq
def costB (c : Nat) : Bool := costLo c && costHi c
/-- What a port of a switch leads to: a switch (or minus a host), the port there, the link's number; the links' numbers begin behind i. -/
def peerF (i : Nat) : List Lk → Int → Int → Int × Int × Int
  | [], _, _ => (0, 0, 0)
  | x :: l, s, p => if x.a = s ∧ x.p = p then (x.b, x.q, (i : Int) + 1) else if x.b = s ∧ 0 < x.b ∧ x.q = p then (x.a, x.p, (i : Int) + 1) else peerF (i + 1) l s p
/-- Where a host is: the switch, the port there, the link's number. -/
def homeF (i : Nat) : List Lk → Int → Int × Int × Int
  | [], _ => (0, 0, 0)
  | x :: l, h => if x.b = -h then (x.a, x.p, (i : Int) + 1) else homeF (i + 1) l h
/-- May a link be one of n switches, as far as it alone tells? -/
def mayB (n : Int) (x : Lk) : Bool :=
  inB x.a 1 n && inB x.p 1 16 && costB x.c && (if inB x.b (-64) (-1) then decide (x.q = 0) else decide (x.b ≠ x.a) && inB x.b 1 n && inB x.q 1 16)
/-- Does a link ask for what one of the others has? -/
def takenB (L : List Lk) (x : Lk) : Bool :=
  decide (0 < (peerF 0 L x.a x.p).2.2) || (decide (0 < x.b) && decide (0 < (peerF 0 L x.b x.q).2.2)) || (decide (x.b < 0) && decide (0 < (homeF 0 L (-x.b)).2.2))
/-- May the links be, behind those of the first list? -/
def goodF (n : Int) : List Lk → List Lk → Bool
  | _, [] => true
  | L, x :: r => mayB n x && !takenB L x && goodF n (L ++ [x]) r
def goodB (n : Int) (l : List Lk) : Bool := inB n 1 32 && decide (l.length ≤ 64) && goodF n [] l

theorem mayB_true {n : Int} {x : Lk} (h : mayB n x = true) : (1 ≤ x.a ∧ x.a ≤ n) ∧ (1 ≤ x.p ∧ x.p ≤ 16) ∧ costB x.c = true ∧ (-64 ≤ x.b ∧ x.b ≤ -1 ∧ x.q = 0 ∨ (x.b ≠ x.a ∧ (1 ≤ x.b ∧ x.b ≤ n) ∧ 1 ≤ x.q ∧ x.q ≤ 16)) := by
  unfold mayB at h
  simp only [Bool.and_eq_true] at h
  obtain ⟨⟨⟨h1, h2⟩, h3⟩, h4⟩ := h
  refine ⟨inB_true.1 h1, inB_true.1 h2, h3, ?_⟩
  split at h4
  · rename_i hb
    have := inB_true.1 hb
    exact .inl ⟨this.1, this.2, by simpa using h4⟩
  · simp only [Bool.and_eq_true, decide_eq_true_eq] at h4
    exact .inr ⟨h4.1.1, inB_true.1 h4.1.2, inB_true.1 h4.2⟩

/-! Good lists, taken apart. -/
theorem goodF_append (n : Int) : ∀ (r : List Lk) (L m : List Lk), goodF n L (r ++ m) = (goodF n L r && goodF n (L ++ r) m)
  | [], L, m => by simp [goodF]
  | x :: r, L, m => by
    rw [List.cons_append, goodF, goodF, goodF_append n r (L ++ [x]) m, List.append_assoc, List.singleton_append]
    simp only [Bool.and_assoc]
theorem good_snoc {n : Int} {L : List Lk} {x : Lk} : goodF n [] (L ++ [x]) = (goodF n [] L && (mayB n x && !takenB L x)) := by
  rw [goodF_append]
  simp [goodF]
theorem good_left {n : Int} {L m : List Lk} (h : goodF n [] (L ++ m) = true) : goodF n [] L = true := by
  rw [goodF_append] at h
  simp only [Bool.and_eq_true] at h
  exact h.1
theorem good_take {n : Int} {l : List Lk} (h : goodF n [] l = true) (k : Nat) : goodF n [] (l.take k) = true := by
  rw [← List.take_append_drop k l] at h
  exact good_left h
theorem good_mid {n : Int} {l : List Lk} (h : goodF n [] l = true) (k : Nat) (hk : k < l.length) : mayB n l[k] = true ∧ takenB (l.take k) l[k] = false := by
  have h2 := good_take h (k + 1)
  rw [List.take_succ_eq_append_getElem hk, good_snoc] at h2
  simp only [Bool.and_eq_true, Bool.not_eq_true'] at h2
  exact h2.2
theorem good_may {n : Int} {l : List Lk} (h : goodF n [] l = true) : ∀ x ∈ l, mayB n x = true := by
  intro x hx
  obtain ⟨k, hk, rfl⟩ := List.getElem_of_mem hx
  exact (good_mid h k hk).1
/-- The first link that may not be fells them all. -/
theorem bad_at {n : Int} {l : List Lk} (k : Nat) (hk : k < l.length) (h : (mayB n l[k] && !takenB (l.take k) l[k]) = false) : goodF n [] l = false := by
  cases hg : goodF n [] l
  · rfl
  · have := good_mid hg k hk
    rw [this.1, this.2] at h
    cases h

/-! What ports lead to, and where hosts are, behind one link more. -/
theorem peerF_link : ∀ (l : List Lk) (i : Nat) (s p : Int), 0 ≤ (peerF i l s p).2.2 ∧ ((peerF i l s p).2.2 = 0 → peerF i l s p = (0, 0, 0)) ∧ ((peerF i l s p).2.2 ≠ 0 → (i : Int) < (peerF i l s p).2.2) ∧ (peerF i l s p).2.2 ≤ (i : Int) + l.length
  | [], i, s, p => by simp [peerF]
  | x :: l, i, s, p => by
    unfold peerF
    split
    · simp; omega
    · split
      · simp; omega
      · obtain ⟨h1, h2, h3, h4⟩ := peerF_link l (i + 1) s p
        refine ⟨h1, h2, fun h => ?_, ?_⟩
        · have := h3 h; omega
        · rw [List.length_cons]; omega
theorem homeF_link : ∀ (l : List Lk) (i : Nat) (h : Int), 0 ≤ (homeF i l h).2.2 ∧ ((homeF i l h).2.2 = 0 → homeF i l h = (0, 0, 0)) ∧ ((homeF i l h).2.2 ≠ 0 → (i : Int) < (homeF i l h).2.2) ∧ (homeF i l h).2.2 ≤ (i : Int) + l.length
  | [], i, h => by simp [homeF]
  | x :: l, i, h => by
    unfold homeF
    split
    · simp; omega
    · obtain ⟨h1, h2, h3, h4⟩ := homeF_link l (i + 1) h
      refine ⟨h1, h2, fun h => ?_, ?_⟩
      · have := h3 h; omega
      · rw [List.length_cons]; omega
/-- One link's answer at a port. -/
def peer1 (i : Nat) (x : Lk) (s p : Int) : Int × Int × Int := if x.a = s ∧ x.p = p then (x.b, x.q, (i : Int) + 1) else if x.b = s ∧ 0 < x.b ∧ x.q = p then (x.a, x.p, (i : Int) + 1) else (0, 0, 0)
def home1 (i : Nat) (x : Lk) (h : Int) : Int × Int × Int := if x.b = -h then (x.a, x.p, (i : Int) + 1) else (0, 0, 0)
theorem peerF_snoc (x : Lk) (s p : Int) : ∀ (l : List Lk) (i : Nat), peerF i (l ++ [x]) s p = if (peerF i l s p).2.2 = 0 then peer1 (i + l.length) x s p else peerF i l s p
  | [], i => by simp [peerF, peer1]
  | y :: l, i => by
    have ih := peerF_snoc x s p l (i + 1)
    rw [List.cons_append, peerF, peerF]
    by_cases h1 : y.a = s ∧ y.p = p
    · rw [if_pos h1, if_pos h1, if_neg (by simp; omega)]
    · rw [if_neg h1, if_neg h1]
      by_cases h2 : y.b = s ∧ 0 < y.b ∧ y.q = p
      · rw [if_pos h2, if_pos h2, if_neg (by simp; omega)]
      · rw [if_neg h2, if_neg h2, ih, List.length_cons, show i + 1 + l.length = i + (l.length + 1) by omega]
theorem homeF_snoc (x : Lk) (h : Int) : ∀ (l : List Lk) (i : Nat), homeF i (l ++ [x]) h = if (homeF i l h).2.2 = 0 then home1 (i + l.length) x h else homeF i l h
  | [], i => by simp [homeF, home1]
  | y :: l, i => by
    have ih := homeF_snoc x h l (i + 1)
    rw [List.cons_append, homeF, homeF]
    by_cases h1 : y.b = -h
    · rw [if_pos h1, if_pos h1, if_neg (by simp; omega)]
    · rw [if_neg h1, if_neg h1, ih, List.length_cons, show i + 1 + l.length = i + (l.length + 1) by omega]
theorem home_stay {x : Lk} {h : Int} (L : List Lk) (hx : x.b ≠ -h) : homeF 0 (L ++ [x]) h = homeF 0 L h := by
  rw [homeF_snoc]
  split
  · rename_i hz
    unfold home1
    rw [if_neg hx]
    exact ((homeF_link L 0 h).2.1 hz).symm
  · rfl
theorem peer_stay {x : Lk} {s p : Int} (L : List Lk) (h1 : ¬ (x.a = s ∧ x.p = p)) (h2 : ¬ (x.b = s ∧ 0 < x.b ∧ x.q = p)) : peerF 0 (L ++ [x]) s p = peerF 0 L s p := by
  rw [peerF_snoc]
  split
  · rename_i hz
    unfold peer1
    rw [if_neg h1, if_neg h2]
    exact ((peerF_link L 0 s p).2.1 hz).symm
  · rfl
end Go.Proofs.Ytcjojcaahpkacaa
