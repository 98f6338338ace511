/-
  The document's sum of two costs, digit by digit, is the exact one, rounded once. Plain mathematics, nothing of the program.
-/
import Derived.Test.YtfkkciepbmijaabFltOp
namespace Go.Proofs.Ytfkkciepbmijaab

def whM (r : Nat) : Nat := if r / 2 ^ 52 = 0 then r % 2 ^ 52 else r % 2 ^ 52 + 2 ^ 52
def whE (r : Nat) : Nat := if r / 2 ^ 52 = 0 then 1 else r / 2 ^ 52
/-- Digits moved down; what is lost shows in the last one. -/
def st (m d : Nat) : Nat := m / 2 ^ d + (if m % 2 ^ d ≠ 0 ∧ m / 2 ^ d % 2 = 0 then 1 else 0)
def outR (S e : Nat) : Nat := min ((e - 1) * 2 ^ 52 + rhe S 10) infR
def refR (m e n f : Nat) : Nat := if 2 ^ 63 ≤ m * 1024 + st (n * 1024) (e - f) then outR (st (m * 1024 + st (n * 1024) (e - f)) 1) (e + 1) else outR (m * 1024 + st (n * 1024) (e - f)) e

theorem vl_wh (r : Nat) : vl r = whM r * 2 ^ (whE r - 1) := by
  unfold vl ex whM whE
  by_cases h : r / 2 ^ 52 = 0
  · rw [if_pos h, if_pos h, h]
    congr 1
    omega
  · rw [if_neg h, if_neg h]
    congr 1
    omega
theorem whE_ge (r : Nat) : 1 ≤ whE r := by unfold whE; split <;> omega
theorem whM_lt (r : Nat) : whM r < 2 ^ 53 := by unfold whM; split <;> omega
theorem whM_big (r : Nat) (h : 1 < whE r) : 2 ^ 52 ≤ whM r := by
  unfold whE at h; unfold whM
  split at h
  · omega
  · rename_i g; rw [if_neg g]; omega
theorem whE_lt (r : Nat) (h : r < infR) : whE r ≤ 2046 := by
  have hI : infR = 9218868437227405312 := rfl
  unfold whE; split <;> omega

theorem div_pow (m d k : Nat) : m / 2 ^ (d + k) = m / 2 ^ d / 2 ^ k := by rw [Nat.pow_add, Nat.div_div_eq_div_mul]
theorem mod_pow (m d k : Nat) : m % 2 ^ (d + k) = m / 2 ^ d % 2 ^ k * 2 ^ d + m % 2 ^ d := by
  rw [Nat.pow_add, Nat.mod_mul, Nat.mul_comm, Nat.add_comm]
theorem st_st (m d : Nat) : st (st m d) 1 = st m (d + 1) := by
  have hp : 0 < 2 ^ d := Nat.two_pow_pos _
  have hm : m % 2 ^ d < 2 ^ d := Nat.mod_lt _ hp
  unfold st
  rw [div_pow m d 1, mod_pow m d 1]
  generalize m / 2 ^ d = q at *
  generalize m % 2 ^ d = u at *
  generalize 2 ^ d = p at *
  have h2 : (2 : Nat) ^ 1 = 2 := rfl
  rw [h2]
  by_cases hu : u = 0
  · subst hu
    have e0 : ¬ ((0 : Nat) ≠ 0 ∧ q % 2 = 0) := by simp
    rw [if_neg e0, Nat.add_zero, Nat.add_zero]
    have : q % 2 * p ≠ 0 ↔ q % 2 ≠ 0 := by
      rw [Ne, Nat.mul_eq_zero]
      omega
    simp only [this]
  · by_cases hq : q % 2 = 0
    · rw [if_pos ⟨hu, hq⟩]
      have e1 : (q + 1) / 2 = q / 2 := by omega
      have e2 : (q + 1) % 2 = 1 := by omega
      rw [e1, e2, hq, Nat.zero_mul, Nat.zero_add]
      simp [hu]
    · rw [if_neg (fun h => hq h.2), Nat.add_zero]
      have e1 : q % 2 = 1 := by omega
      rw [e1, Nat.one_mul]
      by_cases hz : q / 2 % 2 = 0
      · rw [if_pos ⟨by omega, hz⟩, if_pos ⟨by omega, hz⟩]
      · rw [if_neg (fun h => hz h.2), if_neg (fun h => hz h.2)]
/-- Ten digits further down the one digit that shows what is lost is as good as all. -/
theorem rhe_st (m d : Nat) : rhe (st m d) 10 = rhe m (d + 10) := by
  have hp : 0 < 2 ^ d := Nat.two_pow_pos _
  have hm : m % 2 ^ d < 2 ^ d := Nat.mod_lt _ hp
  unfold rhe st
  rw [div_pow m d 10, mod_pow m d 10, Nat.pow_add]
  generalize m / 2 ^ d = q at *
  generalize m % 2 ^ d = u at *
  generalize 2 ^ d = p at *
  have h2 : (2 : Nat) ^ 10 = 1024 := rfl
  rw [h2]
  have hx : q % 1024 < 1024 := Nat.mod_lt _ (by omega)
  obtain ⟨t, ht⟩ : ∃ t, (if u ≠ 0 ∧ q % 2 = 0 then 1 else 0) = t := ⟨_, rfl⟩
  rw [ht]
  have hd : (q + t) / 1024 = q / 1024 := by
    split at ht <;> omega
  rw [hd]
  congr 2
  have hr : (q + t) % 1024 = q % 1024 + t := by
    split at ht <;> omega
  rw [hr]
  have hxp : q % 1024 ≤ 511 ∨ q % 1024 = 512 ∨ 513 ≤ q % 1024 := by omega
  have hpar : q % 2 = q % 1024 % 2 := by omega
  rw [hpar] at ht
  generalize q % 1024 = x at *
  generalize q / 1024 = z at *
  rcases hxp with h | h | h
  · have k : x * p ≤ 511 * p := Nat.mul_le_mul_right _ h
    have a1 : ¬ 1024 < 2 * (x + t) := by split at ht <;> omega
    have a2 : ¬ p * 1024 < 2 * (x * p + u) := by omega
    have a3 : ¬ 1024 = 2 * (x + t) := by split at ht <;> omega
    have a4 : ¬ p * 1024 = 2 * (x * p + u) := by omega
    rw [beq_eq_false_iff_ne.2 a3, beq_eq_false_iff_ne.2 a4, decide_eq_false a1, decide_eq_false a2]
  · subst h
    by_cases hu : u = 0
    · subst hu
      simp at ht
      subst ht
      have a2 : ¬ p * 1024 < 2 * (512 * p + 0) := by omega
      have a4 : p * 1024 = 2 * (512 * p + 0) := by omega
      have a5 : (p * 1024 == 2 * (512 * p + 0)) = true := beq_iff_eq.2 a4
      rw [a5, decide_eq_false a2]
      simp
    · have ht1 : t = 1 := by simp [hu] at ht; exact ht.symm
      subst ht1
      have a2 : p * 1024 < 2 * (512 * p + u) := by omega
      simp [a2]
  · have k : 513 * p ≤ x * p := Nat.mul_le_mul_right _ h
    have a1 : 1024 < 2 * (x + t) := by omega
    have a2 : p * 1024 < 2 * (x * p + u) := by omega
    simp [a1, a2]
theorem rhe_up (x d : Nat) : rhe (x * 1024) (d + 10) = rhe x d := by
  unfold rhe
  rw [Nat.pow_add]
  have h2 : (2 : Nat) ^ 10 = 1024 := rfl
  rw [h2, Nat.mul_div_mul_right _ _ (by omega), Nat.mul_mod_mul_right]
  generalize x % 2 ^ d = u
  generalize 2 ^ d = p
  have b1 : (p * 1024 < 2 * (u * 1024)) ↔ (p < 2 * u) := by omega
  have b2 : (p * 1024 == 2 * (u * 1024)) = (p == 2 * u) := by
    rw [Bool.eq_iff_iff]
    simp only [beq_iff_eq]
    omega
  rw [b2]
  simp only [b1]
theorem st_sum (m n d : Nat) : m * 1024 + st (n * 1024) d = st ((m * 2 ^ d + n) * 1024) d := by
  have hp : 0 < 2 ^ d := Nat.two_pow_pos _
  unfold st
  have e : (m * 2 ^ d + n) * 1024 = n * 1024 + m * 1024 * 2 ^ d := by
    rw [Nat.add_mul, Nat.mul_right_comm, Nat.add_comm]
  rw [e, Nat.add_mul_div_right _ _ hp, Nat.add_mul_mod_self_right]
  have : (n * 1024 / 2 ^ d + m * 1024) % 2 = n * 1024 / 2 ^ d % 2 := by omega
  rw [this, Nat.add_comm (n * 1024 / 2 ^ d) (m * 1024), Nat.add_assoc]
theorem st_ge (x d : Nat) : 2 ^ 63 ≤ st (x * 1024) d ↔ 2 ^ 53 * 2 ^ d ≤ x := by
  have hp : 0 < 2 ^ d := Nat.two_pow_pos _
  have h1 : 2 ^ 63 ≤ st (x * 1024) d ↔ 2 ^ 63 ≤ x * 1024 / 2 ^ d := by
    unfold st
    split <;> omega
  rw [h1, Nat.le_div_iff_mul_le hp]
  generalize 2 ^ d = p
  omega
/-- The document's sum. -/
theorem ref_is (m e n f : Nat) (hf : 1 ≤ f) (hfe : f ≤ e) (hm : m < 2 ^ 53) (hn : n < 2 ^ 53) (hb : 1 < e → 2 ^ 52 ≤ m) : refR m e n f = rnd (m * 2 ^ (e - 1) + n * 2 ^ (f - 1)) := by
  unfold refR
  rw [st_sum]
  obtain ⟨d, hd⟩ : ∃ d, e = f + d := ⟨e - f, by omega⟩
  subst hd
  rw [show f + d - f = d by omega]
  have hp : 0 < 2 ^ d := Nat.two_pow_pos _
  have hX : m * 2 ^ (f + d - 1) + n * 2 ^ (f - 1) = (m * 2 ^ d + n) * 2 ^ (f - 1) := by
    rw [Nat.add_mul, Nat.mul_assoc, ← Nat.pow_add, show d + (f - 1) = f + d - 1 by omega]
  rw [hX]
  have hlo : m * 2 ^ d ≤ m * 2 ^ d + n := by omega
  have hmp : (m + 1) * 2 ^ d ≤ 2 ^ 53 * 2 ^ d := Nat.mul_le_mul_right _ (by omega)
  have hup : m * 2 ^ d + n < 2 ^ 54 * 2 ^ d := by
    have h1 : 1 * 2 ^ 53 ≤ 2 ^ d * 2 ^ 53 := Nat.mul_le_mul_right _ hp
    rw [Nat.add_mul] at hmp
    generalize m * 2 ^ d = y at *
    generalize 2 ^ d = p at *
    omega
  have hbig : 1 < f + d → 2 ^ 52 * 2 ^ d ≤ m * 2 ^ d + n := fun h => Nat.le_trans (Nat.mul_le_mul_right _ (hb h)) hlo
  generalize hXX : m * 2 ^ d + n = X at *
  have hq : 0 < 2 ^ (f - 1) := Nat.two_pow_pos _
  have rr : ∀ k, rhe (X * 2 ^ (f - 1)) (f - 1 + k) = rhe X k := fun k => by
    unfold rhe
    rw [Nat.pow_add, Nat.mul_comm X, Nat.mul_div_mul_left _ _ hq, Nat.mul_mod_mul_left]
    generalize X % 2 ^ k = u
    generalize X / 2 ^ k = z
    generalize 2 ^ k = p
    generalize 2 ^ (f - 1) = s at *
    have b1 : (s * p < 2 * (s * u)) ↔ (p < 2 * u) := by
      rw [show 2 * (s * u) = s * (2 * u) by rw [Nat.mul_left_comm]]
      exact Nat.mul_lt_mul_left hq
    have b2 : (s * p == 2 * (s * u)) = (p == 2 * u) := by
      rw [show 2 * (s * u) = s * (2 * u) by rw [Nat.mul_left_comm]]
      rw [Bool.eq_iff_iff]
      simp only [beq_iff_eq]
      exact ⟨fun h => Nat.eq_of_mul_eq_mul_left hq h, fun h => by rw [h]⟩
    rw [b2]
    simp only [b1]
  by_cases c : 2 ^ 53 * 2 ^ d ≤ X
  · rw [if_pos ((st_ge X d).2 c), st_st]
    unfold outR rnd
    rw [rhe_st, rhe_up]
    have hL : lv (X * 2 ^ (f - 1)) = f + d := by
      apply lv_is
      · rw [show f + d = d + 1 + (f - 1) by omega, Nat.pow_add, ← Nat.mul_assoc]
        refine Nat.mul_lt_mul_of_pos_right ?_ hq
        rw [Nat.pow_succ 2 d]
        generalize 2 ^ d = p at c hup ⊢
        omega
      · right
        rw [show f + d = d + 1 + (f - 1) by omega, Nat.pow_add, ← Nat.mul_assoc]
        refine Nat.mul_le_mul_right _ ?_
        rw [Nat.pow_succ 2 d]
        generalize 2 ^ d = p at c hup ⊢
        omega
    rw [hL]
    have := rr (d + 1)
    rw [show f - 1 + (d + 1) = f + d by omega] at this
    rw [this, show f + d + 1 - 1 = f + d by omega]
  · rw [if_neg (fun h => c ((st_ge X d).1 h))]
    unfold outR rnd
    rw [rhe_st, rhe_up]
    have hL : lv (X * 2 ^ (f - 1)) = f + d - 1 := by
      apply lv_is
      · rw [show f + d - 1 = d + (f - 1) by omega, Nat.pow_add, ← Nat.mul_assoc]
        exact Nat.mul_lt_mul_of_pos_right (Nat.lt_of_not_le c) hq
      · by_cases h : 1 < f + d
        · right
          rw [show f + d - 1 = d + (f - 1) by omega, Nat.pow_add, ← Nat.mul_assoc]
          exact Nat.mul_le_mul_right _ (hbig h)
        · left; omega
    rw [hL]
    have := rr d
    rw [show f - 1 + d = f + d - 1 by omega] at this
    rw [this]
theorem ref_add (a b : Nat) (h : whE b ≤ whE a) : refR (whM a) (whE a) (whM b) (whE b) = rnd (vl a + vl b) := by
  rw [vl_wh a, vl_wh b]
  exact ref_is _ _ _ _ (whE_ge b) h (whM_lt a) (whM_lt b) (whM_big a)
theorem ref_add' (a b : Nat) (h : whE a ≤ whE b) : refR (whM b) (whE b) (whM a) (whE a) = rnd (vl a + vl b) := by
  rw [Nat.add_comm]; exact ref_add b a h
end Go.Proofs.Ytfkkciepbmijaab
