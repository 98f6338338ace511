/-
  Cubes as masks and values, field by field: the plain mathematics (nothing of the program).
-/
import Derived.Laws.BitsLemmas
namespace Go.Proofs.Ytmobmpghpdaddaa
set_option linter.unusedVariables false

abbrev B64 := BitVec 64
theorem bv_ext {a b : B64} (h : ∀ i, i < 64 → a.getLsbD i = b.getLsbD i) : a = b := BitVec.eq_of_getLsbD_eq h
/-- The number of one bit. -/
def bit1 (b : Nat) : B64 := BitVec.ofNat 64 (2 ^ b)
theorem bit1_get (b i : Nat) (hi : i < 64) : (bit1 b).getLsbD i = decide (i = b) := by
  unfold bit1
  rw [BitVec.getLsbD_ofNat, Nat.testBit_two_pow]
  simp [hi, eq_comm]
/-- The bits of a number below t, the greatest first. -/
def rem (a : B64) : Nat → List Nat
  | 0 => []
  | t + 1 => if a.getLsbD t then t :: rem a t else rem a t
theorem rem_mem (a : B64) : ∀ (t i : Nat), i ∈ rem a t ↔ i < t ∧ a.getLsbD i = true
  | 0, i => by simp [rem]
  | t + 1, i => by
    have ih := rem_mem a t i
    unfold rem
    by_cases h : a.getLsbD t = true
    · rw [if_pos h, List.mem_cons, ih]
      constructor
      · rintro (rfl | ⟨h1, h2⟩)
        · exact ⟨by omega, h⟩
        · exact ⟨by omega, h2⟩
      · rintro ⟨h1, h2⟩
        by_cases e : i = t
        · exact .inl e
        · exact .inr ⟨by omega, h2⟩
    · rw [if_neg h, ih]
      constructor
      · rintro ⟨h1, h2⟩
        exact ⟨by omega, h2⟩
      · rintro ⟨h1, h2⟩
        refine ⟨?_, h2⟩
        by_cases e : i = t
        · subst e; exact absurd h2 h
        · omega
/-- The bits below t alone. -/
def lo (a : B64) (t : Nat) : B64 := BitVec.ofNat 64 (a.toNat % 2 ^ t)
theorem lo_get (a : B64) (t i : Nat) (hi : i < 64) : (lo a t).getLsbD i = (decide (i < t) && a.getLsbD i) := by
  unfold lo
  rw [BitVec.getLsbD_ofNat, Nat.testBit_mod_two_pow]
  simp [hi, BitVec.getLsbD]
theorem lo_all (a : B64) : lo a 64 = a := bv_ext fun i hi => by rw [lo_get _ _ _ hi]; simp [hi]
theorem rem_nil (a : B64) : ∀ t, t ≤ 64 → lo a t = 0#64 → rem a t = []
  | 0, _, _ => rfl
  | t + 1, ht, h => by
    have h1 : a.getLsbD t = false := by
      have := congrArg (fun x => x.getLsbD t) h
      simp only [lo_get _ _ _ (show t < 64 by omega)] at this
      simpa using this
    unfold rem
    rw [if_neg (by rw [h1]; simp)]
    refine rem_nil a t (by omega) (bv_ext fun i hi => ?_)
    have := congrArg (fun x => x.getLsbD i) h
    simp only [lo_get _ _ _ hi] at this ⊢
    by_cases hit : i < t
    · rw [← this]; simp [hit, show i < t + 1 by omega]
    · simp [hit]
/-- What stands at the top. -/
theorem rem_top (a : B64) : ∀ t, t ≤ 64 → lo a t ≠ 0#64 → ∃ b, b < t ∧ (lo a t).toNat.log2 = b ∧ a.getLsbD b = true ∧ rem a t = b :: rem a b ∧ lo a t &&& ~~~ bit1 b = lo a b
  | 0, _, h => by exact absurd (by unfold lo; rw [Nat.pow_zero, Nat.mod_one]) h
  | t + 1, ht, h => by
    by_cases h1 : a.getLsbD t = true
    · refine ⟨t, by omega, ?_, h1, ?_, ?_⟩
      · have hl : (lo a (t + 1)).toNat = a.toNat % 2 ^ (t + 1) := by
          unfold lo
          rw [BitVec.toNat_ofNat]
          refine Nat.mod_eq_of_lt (Nat.lt_of_lt_of_le (Nat.mod_lt _ (Nat.two_pow_pos _)) (Nat.pow_le_pow_right (by omega) ht))
        rw [hl]
        have h2 : (a.toNat % 2 ^ (t + 1)).testBit t = true := by
          rw [Nat.testBit_mod_two_pow]
          simp
          exact h1
        have hge : 2 ^ t ≤ a.toNat % 2 ^ (t + 1) := Nat.ge_two_pow_of_testBit h2
        have hlt : a.toNat % 2 ^ (t + 1) < 2 ^ (t + 1) := Nat.mod_lt _ (Nat.two_pow_pos _)
        exact (Nat.log2_eq_iff (by have := Nat.two_pow_pos t; omega)).2 ⟨hge, hlt⟩
      · show (if _ then _ else _) = _
        rw [if_pos h1]
      · refine bv_ext fun i hi => ?_
        rw [BitVec.getLsbD_and, BitVec.getLsbD_not, bit1_get _ _ hi, lo_get _ _ _ hi, lo_get _ _ _ hi]
        by_cases e : i = t
        · subst e; simp
        · by_cases g : i < t
          · simp [g, e, show i < t + 1 by omega, hi]
          · simp [g, show ¬ i < t + 1 by omega]
    · have e : lo a (t + 1) = lo a t := bv_ext fun i hi => by
        rw [lo_get _ _ _ hi, lo_get _ _ _ hi]
        by_cases e : i = t
        · subst e
          have : a.getLsbD i = false := by simpa using h1
          rw [this]; simp
        · by_cases g : i < t
          · simp [g, show i < t + 1 by omega]
          · simp [g, show ¬ i < t + 1 by omega]
      obtain ⟨b, k1, k2, k3, k4, k5⟩ := rem_top a t (by omega) (by rw [← e]; exact h)
      refine ⟨b, by omega, by rw [e]; exact k2, k3, ?_, by rw [e]; exact k5⟩
      show (if _ then _ else _) = _
      rw [if_neg h1]
      exact k4

/-- A cube: of each field the bits that it asks, and as what. -/
structure K where
  m : Nat → B64
  v : Nat → B64
theorem K.ext' {a b : K} (h1 : ∀ f, a.m f = b.m f) (h2 : ∀ f, a.v f = b.v f) : a = b := by
  cases a; cases b
  have e1 := funext h1
  have e2 := funext h2
  simp only at e1 e2
  rw [e1, e2]
/-- The cube of no test. -/
def K.top : K := ⟨fun _ => 0#64, fun _ => 0#64⟩
/-- As each whole cube is. -/
structure Vk (k : K) : Prop where
  rng : ∀ f, k.m f ≠ 0#64 → 1 ≤ f ∧ f ≤ 9
  sub : ∀ f, k.v f &&& k.m f = k.v f
theorem Vk.top : Vk K.top := ⟨fun f h => absurd rfl h, fun f => by simp [K.top]⟩
theorem Vk.v0 {k : K} (h : Vk k) {f : Nat} (hf : ¬ (1 ≤ f ∧ f ≤ 9)) : k.m f = 0#64 ∧ k.v f = 0#64 := by
  have h1 : k.m f = 0#64 := Decidable.byContradiction fun h' => hf (h.rng f h')
  refine ⟨h1, ?_⟩
  have := h.sub f
  rw [h1, BitVec.and_zero] at this
  exact this.symm
theorem Vk.bit {k : K} (h : Vk k) (f i : Nat) (hv : (k.v f).getLsbD i = true) : (k.m f).getLsbD i = true := by
  have := congrArg (fun x => x.getLsbD i) (h.sub f)
  simp only [BitVec.getLsbD_and] at this
  rw [hv] at this
  simpa using this
/-- Values (a number of each field) are in a cube. -/
def hasB (k : K) (r : Nat → B64) : Bool := (List.range 10).all fun f => r f &&& k.m f == k.v f
theorem hasB_iff (k : K) (r : Nat → B64) : hasB k r = true ↔ ∀ f, f < 10 → r f &&& k.m f = k.v f := by
  unfold hasB
  simp
/-- Bit by bit. -/
def agB (k : K) (r : Nat → B64) (f i : Nat) : Bool := !(k.m f).getLsbD i || ((r f).getLsbD i == (k.v f).getLsbD i)
theorem hasB_bits {k : K} (h : Vk k) (r : Nat → B64) : hasB k r = true ↔ ∀ f i, f < 10 → i < 64 → agB k r f i = true := by
  rw [hasB_iff]
  constructor
  · intro g f i hf hi
    have := congrArg (fun x => x.getLsbD i) (g f hf)
    simp only [BitVec.getLsbD_and] at this
    unfold agB
    rw [← this]
    cases (k.m f).getLsbD i <;> simp
  · intro g f hf
    refine bv_ext fun i hi => ?_
    have := g f i hf hi
    unfold agB at this
    rw [BitVec.getLsbD_and]
    have hb := h.bit f i
    revert this hb
    cases (k.m f).getLsbD i <;> cases (k.v f).getLsbD i <;> cases (r f).getLsbD i <;> simp
/-- Both ask the same wherever both ask. -/
def meetB (a b : K) : Bool := (List.range 10).all fun f => a.v f &&& (a.m f &&& b.m f) == b.v f &&& (a.m f &&& b.m f)
theorem meetB_iff (a b : K) : meetB a b = true ↔ ∀ f, f < 10 → a.v f &&& (a.m f &&& b.m f) = b.v f &&& (a.m f &&& b.m f) := by
  unfold meetB
  simp
theorem meetB_bits (a b : K) : meetB a b = true ↔ ∀ f i, f < 10 → i < 64 → (a.m f).getLsbD i = true → (b.m f).getLsbD i = true → (a.v f).getLsbD i = (b.v f).getLsbD i := by
  rw [meetB_iff]
  constructor
  · intro g f i hf hi h1 h2
    have := congrArg (fun x => x.getLsbD i) (g f hf)
    simp only [BitVec.getLsbD_and] at this
    rw [h1, h2] at this
    simpa using this
  · intro g f hf
    refine bv_ext fun i hi => ?_
    have := g f i hf hi
    simp only [BitVec.getLsbD_and]
    cases h1 : (a.m f).getLsbD i <;> cases h2 : (b.m f).getLsbD i <;> simp
    exact this h1 h2
/-- What both ask. -/
def bothK (a b : K) : K := ⟨fun f => a.m f ||| b.m f, fun f => a.v f ||| b.v f⟩
theorem or_ne {a b : B64} (h : a ||| b ≠ 0#64) : a ≠ 0#64 ∨ b ≠ 0#64 := by
  by_cases h1 : a = 0#64
  · right; intro h2; rw [h1, h2] at h; exact h rfl
  · exact .inl h1
theorem Vk.both {a b : K} (h : Vk a) (g : Vk b) : Vk (bothK a b) := by
  refine ⟨fun f hf => ?_, fun f => ?_⟩
  · rcases or_ne hf with h1 | h1
    · exact h.rng f h1
    · exact g.rng f h1
  · refine bv_ext fun i hi => ?_
    have h1 := h.bit f i
    have h2 := g.bit f i
    simp only [bothK, BitVec.getLsbD_and, BitVec.getLsbD_or]
    revert h1 h2
    cases (a.v f).getLsbD i <;> cases (b.v f).getLsbD i <;> cases (a.m f).getLsbD i <;> cases (b.m f).getLsbD i <;> simp
/-- What is in two is in what both ask, and they meet. -/
theorem both_has {a b : K} (h : Vk a) (g : Vk b) (r : Nat → B64) : (meetB a b && hasB (bothK a b) r) = (hasB a r && hasB b r) := by
  rw [Bool.eq_iff_iff, Bool.and_eq_true, Bool.and_eq_true, meetB_bits, hasB_bits (h.both g), hasB_bits h, hasB_bits g]
  constructor
  · rintro ⟨h1, h2⟩
    constructor
    all_goals
      intro f i hf hi
      have m1 := h1 f i hf hi
      have m2 := h2 f i hf hi
      have v1 := h.bit f i
      have v2 := g.bit f i
      unfold agB bothK at *
      simp only [BitVec.getLsbD_or] at *
      revert m1 m2 v1 v2
      cases (a.v f).getLsbD i <;> cases (b.v f).getLsbD i <;> cases (a.m f).getLsbD i <;> cases (b.m f).getLsbD i <;> cases (r f).getLsbD i <;> simp
  · rintro ⟨h1, h2⟩
    refine ⟨fun f i hf hi => ?_, fun f i hf hi => ?_⟩
    all_goals
      have m1 := h1 f i hf hi
      have m2 := h2 f i hf hi
      have v1 := h.bit f i
      have v2 := g.bit f i
      unfold agB at *
      try simp only [bothK, BitVec.getLsbD_or]
      revert m1 m2 v1 v2
      cases (a.v f).getLsbD i <;> cases (b.v f).getLsbD i <;> cases (a.m f).getLsbD i <;> cases (b.m f).getLsbD i <;> cases (r f).getLsbD i <;> simp

/-- A function turned at one place. -/
def upd (g : Nat → B64) (f : Nat) (x : B64) : Nat → B64 := fun i => if i = f then x else g i
theorem upd_same (g : Nat → B64) (f : Nat) (x : B64) : upd g f x f = x := by unfold upd; rw [if_pos rfl]
theorem upd_other (g : Nat → B64) {f i : Nat} (x : B64) (h : i ≠ f) : upd g f x i = g i := by unfold upd; rw [if_neg h]
/-- One bit more is asked, the other way round than o. -/
def flipK (o c : K) (p : Nat × Nat) : K := ⟨upd c.m p.1 (c.m p.1 ||| bit1 p.2), upd c.v p.1 (c.v p.1 ||| (bit1 p.2 &&& ~~~ o.v p.1))⟩
/-- One bit more is asked, as o does. -/
def keepK (o c : K) (p : Nat × Nat) : K := ⟨upd c.m p.1 (c.m p.1 ||| bit1 p.2), upd c.v p.1 (c.v p.1 ||| (bit1 p.2 &&& o.v p.1))⟩
def keepL (o : K) (c : K) (ps : List (Nat × Nat)) : K := ps.foldl (keepK o) c
def cutR (o : K) : K → List (Nat × Nat) → List K
  | _, [] => []
  | c, p :: ps => flipK o c p :: cutR o (keepK o c p) ps
theorem cutR_app (o : K) : ∀ (ps qs : List (Nat × Nat)) (c : K), cutR o c (ps ++ qs) = cutR o c ps ++ cutR o (keepL o c ps) qs
  | [], qs, c => rfl
  | p :: ps, qs, c => by
    show flipK o c p :: cutR o (keepK o c p) (ps ++ qs) = _
    rw [cutR_app o ps qs]
    rfl
theorem keepL_app (o : K) (ps qs : List (Nat × Nat)) (c : K) : keepL o c (ps ++ qs) = keepL o (keepL o c ps) qs := by unfold keepL; rw [List.foldl_append]
/-- The bits that o asks and c doesn't: of a field, and of the first fields. -/
def posF (c o : K) (f : Nat) : List (Nat × Nat) := (rem (o.m f &&& ~~~ c.m f) 64).map fun b => (f, b)
def pos (c o : K) (n : Nat) : List (Nat × Nat) := (List.range n).flatMap (posF c o)
theorem pos_succ (c o : K) (n : Nat) : pos c o (n + 1) = pos c o n ++ posF c o n := by
  unfold pos
  rw [List.range_succ, List.flatMap_append]
  simp
theorem pos_mem (c o : K) (n : Nat) (p : Nat × Nat) : p ∈ pos c o n ↔ p.1 < n ∧ p.2 < 64 ∧ (o.m p.1).getLsbD p.2 = true ∧ (c.m p.1).getLsbD p.2 = false := by
  unfold pos posF
  rw [List.mem_flatMap]
  constructor
  · rintro ⟨f, hf, hp⟩
    obtain ⟨b, hb, rfl⟩ := List.mem_map.1 hp
    rw [rem_mem, BitVec.getLsbD_and, BitVec.getLsbD_not] at hb
    obtain ⟨h1, h2⟩ := hb
    simp [h1] at h2
    exact ⟨List.mem_range.1 hf, h1, h2.1, h2.2⟩
  · rintro ⟨h1, h2, h3, h4⟩
    refine ⟨p.1, List.mem_range.2 h1, List.mem_map.2 ⟨p.2, ?_, rfl⟩⟩
    rw [rem_mem, BitVec.getLsbD_and, BitVec.getLsbD_not, h3, h4]
    simp [h2]
/-- What is left of c without o. -/
def cutL (c o : K) : List K := if meetB c o then cutR o c (pos c o 10) else [c]
theorem keep_other (o c : K) (p : Nat × Nat) {f : Nat} (h : f ≠ p.1) : (keepK o c p).m f = c.m f ∧ (keepK o c p).v f = c.v f := ⟨upd_other _ _ h, upd_other _ _ h⟩
/-- Fields that no place is of stay. -/
theorem keepL_other (o : K) {f : Nat} : ∀ (ps : List (Nat × Nat)) (c : K), (∀ p ∈ ps, p.1 ≠ f) → (keepL o c ps).m f = c.m f ∧ (keepL o c ps).v f = c.v f
  | [], c, _ => ⟨rfl, rfl⟩
  | p :: ps, c, h => by
    have h1 := keepL_other o ps (keepK o c p) (fun q hq => h q (List.mem_cons_of_mem _ hq))
    have h2 := keep_other o c p (f := f) (fun e => h p (List.mem_cons_self ..) e.symm)
    exact ⟨h1.1.trans h2.1, h1.2.trans h2.2⟩
theorem keepL_pos (c o : K) (n : Nat) : (keepL o c (pos c o n)).m n = c.m n ∧ (keepL o c (pos c o n)).v n = c.v n :=
  keepL_other o _ c fun p hp => by
    have := ((pos_mem c o n p).1 hp).1
    omega
/-- One bit: how cubes with one more of it stand. -/
theorem upd_get (g : Nat → B64) (f i : Nat) (x : B64) (j : Nat) : (upd g f x i).getLsbD j = if i = f then x.getLsbD j else (g i).getLsbD j := by
  unfold upd
  split <;> rfl
theorem Vk.flip {o c : K} {p : Nat × Nat} (h : Vk c) (ho : Vk o) (hp : (o.m p.1).getLsbD p.2 = true) : Vk (flipK o c p) := by
  refine ⟨fun f hf => ?_, fun f => bv_ext fun i hi => ?_⟩
  · by_cases e : f = p.1
    · subst e
      exact ho.rng _ (fun e => by rw [e] at hp; simp at hp)
    · simp only [flipK] at hf
      rw [upd_other _ _ e] at hf
      exact h.rng f hf
  · have h1 := h.bit f i
    simp only [flipK, BitVec.getLsbD_and, upd_get, BitVec.getLsbD_or, BitVec.getLsbD_not, bit1_get _ _ hi]
    by_cases e : f = p.1
    · subst e
      simp only [if_true]
      revert h1
      cases (c.v p.1).getLsbD i <;> cases (c.m p.1).getLsbD i <;> cases (o.v p.1).getLsbD i <;> by_cases g : i = p.2 <;> simp [g]
    · simp only [if_neg e]
      revert h1
      cases (c.v f).getLsbD i <;> cases (c.m f).getLsbD i <;> simp
theorem Vk.keep {o c : K} {p : Nat × Nat} (h : Vk c) (ho : Vk o) (hp : (o.m p.1).getLsbD p.2 = true) : Vk (keepK o c p) := by
  refine ⟨fun f hf => ?_, fun f => bv_ext fun i hi => ?_⟩
  · by_cases e : f = p.1
    · subst e
      exact ho.rng _ (fun e => by rw [e] at hp; simp at hp)
    · simp only [keepK] at hf
      rw [upd_other _ _ e] at hf
      exact h.rng f hf
  · have h1 := h.bit f i
    simp only [keepK, BitVec.getLsbD_and, upd_get, BitVec.getLsbD_or, bit1_get _ _ hi]
    by_cases e : f = p.1
    · subst e
      simp only [if_true]
      revert h1
      cases (c.v p.1).getLsbD i <;> cases (c.m p.1).getLsbD i <;> cases (o.v p.1).getLsbD i <;> by_cases g : i = p.2 <;> simp [g]
    · simp only [if_neg e]
      revert h1
      cases (c.v f).getLsbD i <;> cases (c.m f).getLsbD i <;> simp
/-- A bit that c doesn't ask: values are in the one of the two just if they are in c and have it so. -/
theorem flip_has {o c : K} {p : Nat × Nat} (h : Vk c) (ho : Vk o) (h1 : p.1 < 10) (h2 : p.2 < 64) (hp : (o.m p.1).getLsbD p.2 = true) (hc : (c.m p.1).getLsbD p.2 = false) (r : Nat → B64) :
    hasB (flipK o c p) r = (hasB c r && !agB o r p.1 p.2) ∧ hasB (keepK o c p) r = (hasB c r && agB o r p.1 p.2) := by
  constructor
  all_goals
    rw [Bool.eq_iff_iff, Bool.and_eq_true, hasB_bits h]
    first | rw [hasB_bits (h.flip ho hp)] | rw [hasB_bits (h.keep ho hp)]
    constructor
    · intro g
      refine ⟨fun f i hf hi => ?_, ?_⟩
      · have := g f i hf hi
        simp only [agB, flipK, keepK, upd_get, BitVec.getLsbD_or, BitVec.getLsbD_and, BitVec.getLsbD_not, bit1_get _ _ hi] at this ⊢
        have hv := h.bit p.1 p.2
        by_cases e : f = p.1
        · subst e
          by_cases e2 : i = p.2
          · subst e2
            rw [hc]
            simp
          · simpa [e2] using this
        · simpa [e] using this
      · have := g p.1 p.2 h1 h2
        have hv := h.bit p.1 p.2
        simp only [agB, flipK, keepK, upd_get, BitVec.getLsbD_or, BitVec.getLsbD_and, BitVec.getLsbD_not, bit1_get _ _ h2] at this ⊢
        rw [hc] at this hv
        rw [hp]
        revert this hv
        cases (c.v p.1).getLsbD p.2 <;> cases (o.v p.1).getLsbD p.2 <;> cases (r p.1).getLsbD p.2 <;> simp [h2]
    · rintro ⟨g, gp⟩ f i hf hi
      have := g f i hf hi
      simp only [agB, flipK, keepK, upd_get, BitVec.getLsbD_or, BitVec.getLsbD_and, BitVec.getLsbD_not, bit1_get _ _ hi] at this gp ⊢
      by_cases e : f = p.1
      · subst e
        by_cases e2 : i = p.2
        · subst e2
          have hv := h.bit p.1 p.2
          rw [hp] at gp
          rw [hc] at hv this
          revert this hv gp
          cases (c.v p.1).getLsbD p.2 <;> cases (o.v p.1).getLsbD p.2 <;> cases (r p.1).getLsbD p.2 <;> simp [hi]
        · simpa [e2] using this
      · simpa [e] using this
/-- How many of a list values are in. -/
def cnt (r : Nat → B64) (l : List K) : Nat := l.countP fun k => hasB k r
theorem cnt_app (r : Nat → B64) (l m : List K) : cnt r (l ++ m) = cnt r l + cnt r m := by unfold cnt; rw [List.countP_append]
theorem cnt_cons (r : Nat → B64) (k : K) (l : List K) : cnt r (k :: l) = (if hasB k r then 1 else 0) + cnt r l := by unfold cnt; rw [List.countP_cons]; omega
theorem cnt_one (r : Nat → B64) (k : K) : cnt r [k] = if hasB k r then 1 else 0 := by rw [cnt_cons]; simp [cnt]
/-- Places of bits that o asks and c doesn't, each once. -/
theorem keep_pos {o c : K} {ps : List (Nat × Nat)} (hnd : ps.Nodup) {p : Nat × Nat} (hp : p ∉ ps) (hps : ∀ q ∈ ps, q.1 < 10 ∧ q.2 < 64 ∧ (o.m q.1).getLsbD q.2 = true ∧ (c.m q.1).getLsbD q.2 = false) :
    ∀ q ∈ ps, q.1 < 10 ∧ q.2 < 64 ∧ (o.m q.1).getLsbD q.2 = true ∧ ((keepK o c p).m q.1).getLsbD q.2 = false := by
  intro q hq
  obtain ⟨h1, h2, h3, h4⟩ := hps q hq
  refine ⟨h1, h2, h3, ?_⟩
  simp only [keepK, upd_get, BitVec.getLsbD_or, bit1_get _ _ h2]
  by_cases e : q.1 = p.1
  · rw [if_pos e]
    by_cases e2 : q.2 = p.2
    · exact absurd (show q = p from Prod.ext e e2) (fun e => hp (e ▸ hq))
    · rw [e] at h4; simp [e2, h4]
  · rw [if_neg e]; exact h4
theorem cutR_cnt {o : K} (ho : Vk o) (r : Nat → B64) : ∀ (ps : List (Nat × Nat)) (c : K), Vk c → ps.Nodup → (∀ q ∈ ps, q.1 < 10 ∧ q.2 < 64 ∧ (o.m q.1).getLsbD q.2 = true ∧ (c.m q.1).getLsbD q.2 = false) →
    cnt r (cutR o c ps) = (if hasB c r && !(ps.all fun q => agB o r q.1 q.2) then 1 else 0)
  | [], c, _, _, _ => by simp [cutR, cnt]
  | p :: ps, c, hc, hnd, hps => by
    obtain ⟨hn1, hn2⟩ := List.nodup_cons.1 hnd
    obtain ⟨h1, h2, h3, h4⟩ := hps p (List.mem_cons_self ..)
    have ih := cutR_cnt ho r ps (keepK o c p) (hc.keep ho h3) hn2 (keep_pos hn2 hn1 fun q hq => hps q (List.mem_cons_of_mem _ hq))
    obtain ⟨f1, f2⟩ := flip_has hc ho h1 h2 h3 h4 r
    show cnt r (flipK o c p :: cutR o (keepK o c p) ps) = _
    rw [cnt_cons, ih, f1, f2, List.all_cons]
    cases hasB c r <;> cases agB o r p.1 p.2 <;> cases (ps.all fun q => agB o r q.1 q.2) <;> simp
theorem rem_lt (a : B64) (t : Nat) : ∀ i ∈ rem a t, i < t := fun i hi => ((rem_mem a t i).1 hi).1
theorem rem_nodup (a : B64) : ∀ t, (rem a t).Nodup
  | 0 => List.nodup_nil
  | t + 1 => by
    unfold rem
    by_cases h : a.getLsbD t = true
    · rw [if_pos h]
      exact List.nodup_cons.2 ⟨fun h' => by have := rem_lt a t t h'; omega, rem_nodup a t⟩
    · rw [if_neg h]; exact rem_nodup a t
theorem pos_nodup (c o : K) : ∀ n, (pos c o n).Nodup
  | 0 => List.nodup_nil
  | n + 1 => by
    rw [pos_succ]
    refine List.nodup_append.2 ⟨pos_nodup c o n, ?_, fun p hp q hq e => ?_⟩
    · unfold posF
      exact List.Pairwise.map _ (fun a b h e => h (Prod.mk.inj e).2) (rem_nodup _ _)
    · subst e
      have h1 := ((pos_mem c o n p).1 hp).1
      unfold posF at hq
      obtain ⟨b, _, rfl⟩ := List.mem_map.1 hq
      simp at h1
theorem cutL_cnt {c o : K} (hc : Vk c) (ho : Vk o) (r : Nat → B64) : cnt r (cutL c o) = if hasB c r && !hasB o r then 1 else 0 := by
  unfold cutL
  by_cases hm : meetB c o = true
  · rw [if_pos hm, cutR_cnt ho r _ c hc (pos_nodup c o 10) (fun q hq => (pos_mem c o 10 q).1 hq)]
    have : (hasB c r && !((pos c o 10).all fun q => agB o r q.1 q.2)) = (hasB c r && !hasB o r) := by
      cases hh : hasB c r with
      | false => rfl
      | true =>
        rw [Bool.true_and, Bool.true_and]
        congr 1
        rw [Bool.eq_iff_iff, List.all_eq_true, hasB_bits ho]
        rw [hasB_bits hc] at hh
        rw [meetB_bits] at hm
        constructor
        · intro g f i hf hi
          cases h1 : (o.m f).getLsbD i with
          | false => unfold agB; rw [h1]; rfl
          | true =>
            cases h2 : (c.m f).getLsbD i with
            | false => exact g (f, i) ((pos_mem c o 10 (f, i)).2 ⟨hf, hi, h1, h2⟩)
            | true =>
              have := hh f i hf hi
              unfold agB at this ⊢
              rw [h2] at this
              rw [h1, ← hm f i hf hi h2 h1]
              exact this
        · rintro g ⟨f, i⟩ hq
          obtain ⟨h1, h2, _, _⟩ := (pos_mem c o 10 _).1 hq
          exact g f i h1 h2
    rw [this]
  · rw [if_neg hm, cnt_one]
    have : hasB c r = (hasB c r && !hasB o r) := by
      cases h1 : hasB c r <;> cases h2 : hasB o r <;> try rfl
      have := both_has hc ho r
      rw [h1, h2] at this
      have h3 : meetB c o = true := by
        revert this
        cases meetB c o <;> simp
      exact absurd h3 hm
    rw [← this]
end Go.Proofs.Ytmobmpghpdaddaa
