/-
  Floats of 64 bits as whole numbers: what a word is worth, which word a worth is rounded to. Plain mathematics, nothing of the program.
-/
import Derived.Laws.FloatArith
namespace Go.Proofs.Ytfkkciepbmijaab
open Ieee

/-- What a word below infinity is worth, in units of the least one. -/
def ex (r : Nat) : Nat := r / 2 ^ 52 - 1
def vl (r : Nat) : Nat := (r - ex r * 2 ^ 52) * 2 ^ ex r
/-- To the nearest whole number of 2^d, between two to the even one. -/
def rhe (n d : Nat) : Nat := n / 2 ^ d + (decide (2 ^ d < 2 * (n % 2 ^ d)) || (2 ^ d == 2 * (n % 2 ^ d) && n / 2 ^ d % 2 == 1)).toNat
def lv (v : Nat) : Nat := v.log2 - 52
def infR : Nat := 9218868437227405312
/-- The word that a worth is rounded to. -/
def rnd (v : Nat) : Nat := min (lv v * 2 ^ 52 + rhe v (lv v)) infR

theorem vl_step (r : Nat) : vl r < vl (r + 1) := by
  unfold vl ex
  have hr : r / 2 ^ 52 * 2 ^ 52 + r % 2 ^ 52 = r := by omega
  by_cases h : (r + 1) / 2 ^ 52 = r / 2 ^ 52
  · rw [h]
    have hp : 0 < 2 ^ (r / 2 ^ 52 - 1) := Nat.two_pow_pos _
    exact Nat.mul_lt_mul_of_pos_right (by omega) hp
  · have h1 : (r + 1) / 2 ^ 52 = r / 2 ^ 52 + 1 := by omega
    have h2 : r % 2 ^ 52 = 2 ^ 52 - 1 := by omega
    rw [h1]
    by_cases h3 : r / 2 ^ 52 = 0
    · rw [h3]; omega
    · obtain ⟨E, hE⟩ : ∃ E, r / 2 ^ 52 = E + 1 := ⟨r / 2 ^ 52 - 1, by omega⟩
      rw [hE, show E + 1 - 1 = E by omega, show E + 1 + 1 - 1 = E + 1 by omega, Nat.pow_succ 2 E]
      have hp : 0 < 2 ^ E := Nat.two_pow_pos _
      generalize 2 ^ E = p at *
      have e1 : r - E * 2 ^ 52 = 2 ^ 53 - 1 := by omega
      have e2 : r + 1 - (E + 1) * 2 ^ 52 = 2 ^ 52 := by omega
      rw [e1, e2]
      omega
theorem vl_lt {r s : Nat} (h : r < s) : vl r < vl s := by
  induction s with
  | zero => omega
  | succ s ih =>
    by_cases e : r = s
    · subst e; exact vl_step r
    · exact Nat.lt_trans (ih (by omega)) (vl_step s)
theorem vl_le {r s : Nat} (h : r ≤ s) : vl r ≤ vl s := by
  rcases Nat.lt_or_eq_of_le h with h | h
  · exact Nat.le_of_lt (vl_lt h)
  · rw [h]; exact Nat.le_refl _
theorem vl_lt_iff {r s : Nat} : vl r < vl s ↔ r < s := ⟨fun h => by
  rcases Nat.lt_or_ge r s with g | g
  · exact g
  · have := vl_le g; omega, vl_lt⟩
theorem vl_zero : vl 0 = 0 := by decide
theorem vl_eq_zero {r : Nat} : vl r = 0 ↔ r = 0 := by
  refine ⟨fun h => ?_, fun h => by rw [h, vl_zero]⟩
  rcases Nat.eq_zero_or_pos r with g | g
  · exact g
  · have := vl_lt g; rw [vl_zero] at this; omega

theorem rhe_exact (g d : Nat) : rhe (g * 2 ^ d) d = g := by
  have hp : 0 < 2 ^ d := Nat.two_pow_pos _
  unfold rhe
  rw [Nat.mul_div_cancel _ hp, Nat.mul_mod_left]
  have h1 : decide (2 ^ d < 2 * 0) = false := by simp
  have h2 : (2 ^ d == 2 * 0) = false := by simp
  rw [h1, h2]
  simp
theorem rhe_mono {a b : Nat} (d : Nat) (h : a ≤ b) : rhe a d ≤ rhe b d := by
  have hp : 0 < 2 ^ d := Nat.two_pow_pos _
  have hq : a / 2 ^ d ≤ b / 2 ^ d := Nat.div_le_div_right h
  have ea := Nat.div_add_mod a (2 ^ d)
  have eb := Nat.div_add_mod b (2 ^ d)
  unfold rhe
  have hx : ∀ x : Bool, x.toNat ≤ 1 := fun x => by cases x <;> decide
  rcases Nat.lt_or_eq_of_le hq with g | g
  · have := hx (decide (2 ^ d < 2 * (a % 2 ^ d)) || (2 ^ d == 2 * (a % 2 ^ d) && a / 2 ^ d % 2 == 1))
    omega
  · rw [← g] at eb ⊢
    have hm : a % 2 ^ d ≤ b % 2 ^ d := by omega
    generalize a % 2 ^ d = x at *
    generalize b % 2 ^ d = y at *
    generalize a / 2 ^ d = q at *
    generalize 2 ^ d = p at *
    apply Nat.add_le_add_left
    by_cases c1 : p < 2 * x
    · have c2 : p < 2 * y := by omega
      simp [c1, c2]
    · by_cases c3 : p = 2 * x ∧ q % 2 = 1
      · by_cases c4 : p < 2 * y
        · simp [c4]; exact hx _
        · have c5 : p = 2 * y := by omega
          have c6 : ¬ p < 2 * y := by omega
          have e1 : (p == 2 * x) = true := by simp [c3.1]
          have e2 : (p == 2 * y) = true := by simp [← c5]
          simp [c1, c6, e1, e2]
      · have : (decide (p < 2 * x) || (p == 2 * x && q % 2 == 1)) = false := by
          simp only [c1, decide_false, Bool.false_or]
          by_cases d1 : p = 2 * x
          · have d2 : ¬ q % 2 = 1 := fun h => c3 ⟨d1, h⟩
            simp [d2]
          · simp [d1]
        rw [this]
        exact Nat.zero_le _
theorem rhe_le (n d : Nat) (k : Nat) (h : n ≤ k * 2 ^ d) : rhe n d ≤ k := by
  have := rhe_mono d h
  rwa [rhe_exact] at this
theorem le_rhe (n d : Nat) (k : Nat) (h : k * 2 ^ d ≤ n) : k ≤ rhe n d := by
  have := rhe_mono d h
  rwa [rhe_exact] at this
theorem lt_of_lv (v : Nat) : v < 2 ^ 53 * 2 ^ lv v := by
  unfold lv
  rw [← Nat.pow_add]
  by_cases h : v = 0
  · subst h; exact Nat.two_pow_pos _
  · exact (Nat.log2_lt h).1 (by omega)
theorem ge_of_lv (v : Nat) (h : 0 < lv v) : 2 ^ 52 * 2 ^ lv v ≤ v := by
  unfold lv at *
  rw [← Nat.pow_add]
  have h0 : v ≠ 0 := fun e => by subst e; simp at h
  exact (Nat.le_log2 h0).1 (by omega)
theorem lv_mono {a b : Nat} (h : a ≤ b) : lv a ≤ lv b := by
  rcases Nat.eq_zero_or_pos (lv a) with g | g
  · omega
  · have h1 := ge_of_lv a g
    have h2 := lt_of_lv b
    rw [← Nat.pow_add] at h1 h2
    have h3 : 2 ^ (52 + lv a) < 2 ^ (53 + lv b) := by omega
    have := (Nat.pow_lt_pow_iff_right (by omega : 1 < 2)).1 h3
    omega
theorem rnd_mono {a b : Nat} (h : a ≤ b) : rnd a ≤ rnd b := by
  have hl := lv_mono h
  unfold rnd
  suffices lv a * 2 ^ 52 + rhe a (lv a) ≤ lv b * 2 ^ 52 + rhe b (lv b) by omega
  rcases Nat.lt_or_eq_of_le hl with g | g
  · have h1 : rhe a (lv a) ≤ 2 ^ 53 := rhe_le _ _ _ (Nat.le_of_lt (lt_of_lv a))
    have h2 : 2 ^ 52 ≤ rhe b (lv b) := le_rhe _ _ _ (ge_of_lv b (by omega))
    omega
  · rw [← g]
    have := rhe_mono (lv a) h
    omega
/-- A worth of which its binade is known. -/
theorem lv_is {v L : Nat} (h1 : v < 2 ^ 53 * 2 ^ L) (h2 : L = 0 ∨ 2 ^ 52 * 2 ^ L ≤ v) : lv v = L := by
  rw [← Nat.pow_add] at h1 h2
  have hle : lv v ≤ L := by
    rcases Nat.eq_zero_or_pos (lv v) with g | g
    · omega
    · have h3 := ge_of_lv v g
      rw [← Nat.pow_add] at h3
      have := (Nat.pow_lt_pow_iff_right (by omega : 1 < 2)).1 (Nat.lt_of_le_of_lt h3 h1)
      omega
  rcases h2 with h2 | h2
  · omega
  · have h4 := lt_of_lv v
    rw [← Nat.pow_add] at h4
    have := (Nat.pow_lt_pow_iff_right (by omega : 1 < 2)).1 (Nat.lt_of_le_of_lt h2 h4)
    omega
theorem rnd_vl (r : Nat) (h : r ≤ infR) : rnd (vl r) = r := by
  have hl : lv (vl r) = ex r := by
    apply lv_is
    · unfold vl
      exact Nat.mul_lt_mul_of_pos_right (by unfold ex; omega) (Nat.two_pow_pos _)
    · by_cases e : ex r = 0
      · exact .inl e
      · right
        unfold vl
        exact Nat.mul_le_mul_right _ (by unfold ex at *; omega)
  unfold rnd
  rw [hl]
  have : rhe (vl r) (ex r) = r - ex r * 2 ^ 52 := by unfold vl; exact rhe_exact _ _
  rw [this]
  have : ex r * 2 ^ 52 ≤ r := by unfold ex; omega
  omega
theorem rnd_le (v : Nat) : rnd v ≤ infR := Nat.min_le_right _ _
theorem rnd_zero : rnd 0 = 0 := by have := rnd_vl 0 (by decide); rwa [vl_zero] at this

/-- The model's way to a whole number is ours. -/
theorem cut_is (n d : Nat) (h : d ≤ n.log2 + 2) : Toward.even.cut false n d = rhe n d := by
  unfold Toward.cut rhe
  simp only [Nat.min_eq_left h, Nat.one_shiftLeft]
theorem nearest_is (m : Nat) (p : Nat) (e : Int) (he : e = (p : Int) - 1074) : Format.nearest double false m e = rnd (m * 2 ^ p) := by
  unfold Format.nearest
  by_cases hm : m = 0
  · subst hm; rw [if_pos rfl, Nat.zero_mul, rnd_zero]; rfl
  · rw [if_neg hm]
    have hlp : double.leastPlace = -1074 := by decide
    have hlog : (m * 2 ^ p).log2 = m.log2 + p := by
      have hpos : m * 2 ^ p ≠ 0 := Nat.mul_ne_zero hm (Nat.pos_iff_ne_zero.1 (Nat.two_pow_pos _))
      refine (Nat.log2_eq_iff hpos).2 ⟨?_, ?_⟩
      · rw [Nat.pow_add]; exact Nat.mul_le_mul_right _ (Nat.log2_self_le hm)
      · rw [show m.log2 + p + 1 = m.log2 + 1 + p by omega, Nat.pow_add]; exact Nat.mul_lt_mul_of_pos_right (Nat.lt_log2_self) (Nat.two_pow_pos _)
    have hlast : max (e + m.log2 - double.fractionBits) double.leastPlace = (lv (m * 2 ^ p) : Int) - 1074 := by
      rw [hlp]
      unfold lv
      rw [hlog]
      show max (e + (m.log2 : Int) - 52) (-1074) = _
      omega
    rw [hlp] at hlast
    simp only [hlp, hlast]
    have hinf : double.infRung = infR := by decide
    have hbin : double.binade = 2 ^ 52 := rfl
    rw [hinf, hbin]
    unfold Format.word rnd
    simp only [Bool.false_eq_true, if_false]
    have e1 : ((lv (m * 2 ^ p) : Int) - 1074 - -1074).toNat = lv (m * 2 ^ p) := by omega
    rw [e1]
    have hL : lv (m * 2 ^ p) = m.log2 + p - 52 := by unfold lv; rw [hlog]
    congr 2
    by_cases c : lv (m * 2 ^ p) ≤ p
    · have e2 : ((lv (m * 2 ^ p) : Int) - 1074 - e).toNat = 0 := by omega
      have e3 : (e - ((lv (m * 2 ^ p) : Int) - 1074)).toNat = p - lv (m * 2 ^ p) := by omega
      rw [e2, e3, cut_is _ _ (Nat.zero_le _), Nat.shiftLeft_eq]
      have e4 : m * 2 ^ p = m * 2 ^ (p - lv (m * 2 ^ p)) * 2 ^ lv (m * 2 ^ p) := by
        rw [Nat.mul_assoc, ← Nat.pow_add, Nat.sub_add_cancel c]
      have e5 : rhe (m * 2 ^ p) (lv (m * 2 ^ p)) = m * 2 ^ (p - lv (m * 2 ^ p)) := by
        conv => lhs; arg 1; rw [e4]
        exact rhe_exact _ _
      rw [e5]
      have := rhe_exact (m * 2 ^ (p - lv (m * 2 ^ p))) 0
      rwa [Nat.pow_zero, Nat.mul_one] at this
    · obtain ⟨k, hk⟩ : ∃ k, lv (m * 2 ^ p) = p + k := ⟨lv (m * 2 ^ p) - p, by omega⟩
      have e2 : ((lv (m * 2 ^ p) : Int) - 1074 - e).toNat = k := by omega
      have e3 : (e - ((lv (m * 2 ^ p) : Int) - 1074)).toNat = 0 := by omega
      rw [e2, e3, Nat.shiftLeft_zero, cut_is _ _ (by omega), hk]
      unfold rhe
      have hp : 0 < 2 ^ p := Nat.two_pow_pos _
      rw [Nat.pow_add]
      have a1 : m * 2 ^ p / (2 ^ p * 2 ^ k) = m / 2 ^ k := by rw [Nat.mul_comm m, Nat.mul_div_mul_left _ _ hp]
      have a2 : m * 2 ^ p % (2 ^ p * 2 ^ k) = 2 ^ p * (m % 2 ^ k) := by rw [Nat.mul_comm m, Nat.mul_mod_mul_left]
      rw [a1, a2]
      generalize m % 2 ^ k = x
      generalize 2 ^ k = q
      generalize 2 ^ p = s at *
      have b1 : (s * q < 2 * (s * x)) ↔ (q < 2 * x) := by
        rw [show 2 * (s * x) = s * (2 * x) by rw [Nat.mul_left_comm]]
        exact Nat.mul_lt_mul_left hp
      have b2 : (s * q == 2 * (s * x)) = (q == 2 * x) := by
        rw [show 2 * (s * x) = s * (2 * x) by rw [Nat.mul_left_comm]]
        rw [Bool.eq_iff_iff]
        simp only [beq_iff_eq]
        exact ⟨fun h => Nat.eq_of_mul_eq_mul_left hp h, fun h => by rw [h]⟩
      rw [b2]
      simp only [b1]
end Go.Proofs.Ytfkkciepbmijaab
