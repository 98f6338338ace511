/-
  Which words are costs, which one is ahead, what two come to: the model's comparisons and its sum, said by whole numbers. Nothing of the program.
-/
import Derived.Test.YtfkkciepbmijaabFlt
namespace Go.Proofs.Ytfkkciepbmijaab
open Ieee

/-- Where a word stands in the order. -/
def ky (b : Nat) : Int := if infR < b % 2 ^ 63 then 9223372036854775807 else if 2 ^ 63 ≤ b then -((b % 2 ^ 63 : Nat) : Int) else ((b % 2 ^ 63 : Nat) : Int)
def nanB (b : Nat) : Bool := decide (infR < b % 2 ^ 63)
def rightB (b : Nat) : Bool := decide (b < infR) || b == 2 ^ 63
def lessB (a b : Nat) : Bool := decide (ky a < ky b)
def addB (a b : Nat) : Nat := if rightB a && rightB b then rnd (vl (a % 2 ^ 63) + vl (b % 2 ^ 63)) else infR

theorem read_num (b : Nat) (hb : b < 2 ^ 64) (h : b % 2 ^ 63 < infR) : ∃ m p : Nat, double.read b = .number (decide (2 ^ 63 ≤ b)) m ((p : Int) - 1074) ∧ m * 2 ^ p = vl (b % 2 ^ 63) := by
  have hs : double.signWeight = 2 ^ 63 := by decide
  have hi : double.infRung = infR := by decide
  have hn : double.binade = 2 ^ 52 := rfl
  have hl : double.leastPlace = -1074 := by decide
  have hneg : (b / 2 ^ 63 % 2 == 1) = decide (2 ^ 63 ≤ b) := by
    rw [Bool.eq_iff_iff]
    simp only [beq_iff_eq, decide_eq_true_eq]
    omega
  unfold Format.read
  simp only [hs, hi, hn, hl, hneg]
  by_cases c : b % 2 ^ 63 < 2 ^ 52
  · rw [if_pos c]
    refine ⟨b % 2 ^ 63, 0, by simp, ?_⟩
    unfold vl ex
    have : b % 2 ^ 63 / 2 ^ 52 = 0 := by omega
    rw [this]
    simp
  · rw [if_neg c, if_pos h]
    refine ⟨2 ^ 52 + b % 2 ^ 63 % 2 ^ 52, b % 2 ^ 63 / 2 ^ 52 - 1, by first | (congr 1; done) | (congr 1; omega), ?_⟩
    unfold vl ex
    congr 1
    omega
theorem read_inf (b : Nat) (hb : b < 2 ^ 64) (h : b % 2 ^ 63 = infR) : double.read b = .infinity (decide (2 ^ 63 ≤ b)) := by
  have hs : double.signWeight = 2 ^ 63 := by decide
  have hi : double.infRung = infR := by decide
  have hn : double.binade = 2 ^ 52 := rfl
  have hneg : (b / 2 ^ 63 % 2 == 1) = decide (2 ^ 63 ≤ b) := by
    rw [Bool.eq_iff_iff]
    simp only [beq_iff_eq, decide_eq_true_eq]
    omega
  unfold Format.read
  simp only [hs, hi, hn, hneg, h]
  rw [if_neg (by decide), if_neg (by omega), if_pos trivial]
theorem read_nan (b : Nat) (h : infR < b % 2 ^ 63) : ∃ s t, double.read b = .nan s t := by
  have hs : double.signWeight = 2 ^ 63 := by decide
  have hi : double.infRung = infR := by decide
  have hn : double.binade = 2 ^ 52 := rfl
  unfold Format.read
  simp only [hs, hi, hn]
  have : (2 ^ 52 : Nat) < infR := by decide
  rw [if_neg (by omega), if_neg (by omega), if_neg (by omega)]
  exact ⟨_, _, rfl⟩

theorem cmp_eq {a b c d : Int} (h1 : a < b ↔ c < d) (h2 : a = b ↔ c = d) : compare a b = compare c d := by
  show compareOfLessAndEq a b = compareOfLessAndEq c d
  unfold compareOfLessAndEq
  by_cases x : a < b
  · rw [if_pos x, if_pos (h1.1 x)]
  · rw [if_neg x, if_neg (fun g => x (h1.2 g))]
    by_cases y : a = b
    · rw [if_pos y, if_pos (h2.1 y)]
    · rw [if_neg y, if_neg (fun g => y (h2.2 g))]
def sv (s : Bool) (v : Nat) : Int := if s then -(v : Int) else v
theorem signed_up (s : Bool) (m u v : Nat) : signed s m u * (2 ^ v : Nat) = sv s (m * 2 ^ (u + v)) := by
  unfold signed sv
  rw [Nat.shiftLeft_eq]
  split
  · rw [Int.neg_mul, ← Int.natCast_mul, Nat.mul_assoc, ← Nat.pow_add]
  · rw [← Int.natCast_mul, Nat.mul_assoc, ← Nat.pow_add]
theorem sv_lt (s t : Bool) (a b : Nat) : sv s (vl a) < sv t (vl b) ↔ sv s a < sv t b := by
  have h1 : vl a < vl b ↔ a < b := vl_lt_iff
  have h2 : vl b < vl a ↔ b < a := vl_lt_iff
  have h3 : vl a = 0 ↔ a = 0 := vl_eq_zero
  have h4 : vl b = 0 ↔ b = 0 := vl_eq_zero
  unfold sv
  cases s <;> cases t <;> simp only [Bool.false_eq_true, if_false, if_true] <;> omega
theorem sv_eq (s t : Bool) (a b : Nat) : sv s (vl a) = sv t (vl b) ↔ sv s a = sv t b := by
  have h1 := sv_lt s t a b
  have h2 := sv_lt t s b a
  omega
theorem order_num (s t : Bool) (m n p q a b : Nat) (ha : m * 2 ^ p = vl a) (hb : n * 2 ^ q = vl b) :
    Datum.order (.number s m ((p : Int) - 1074)) (.number t n ((q : Int) - 1074)) = some (compare (sv s a) (sv t b)) := by
  unfold Datum.order
  simp only
  congr 1
  obtain ⟨g, hg⟩ : ∃ g : Nat, min ((p : Int) - 1074) ((q : Int) - 1074) = (g : Int) - 1074 := ⟨min p q, by omega⟩
  rw [hg]
  have e1 : ((p : Int) - 1074 - ((g : Int) - 1074)).toNat = p - g := by omega
  have e2 : ((q : Int) - 1074 - ((g : Int) - 1074)).toNat = q - g := by omega
  rw [e1, e2]
  have f1 := signed_up s m (p - g) g
  have f2 := signed_up t n (q - g) g
  rw [show p - g + g = p by omega, ha] at f1
  rw [show q - g + g = q by omega, hb] at f2
  have hp : (0 : Int) < ((2 ^ g : Nat) : Int) := by have := Nat.two_pow_pos g; omega
  refine cmp_eq ?_ ?_
  · rw [← sv_lt, ← f1, ← f2]
    exact ⟨fun h => Int.mul_lt_mul_of_pos_right h hp, fun h => Int.lt_of_mul_lt_mul_right h (Int.le_of_lt hp)⟩
  · rw [← sv_eq, ← f1, ← f2]
    exact ⟨fun h => by rw [h], fun h => Int.eq_of_mul_eq_mul_right (Int.ne_of_gt hp) h⟩
theorem ky_num (b : Nat) (h : b % 2 ^ 63 ≤ infR) : ky b = sv (decide (2 ^ 63 ≤ b)) (b % 2 ^ 63) := by
  unfold ky sv
  rw [if_neg (by omega)]
  simp only [decide_eq_true_eq]
/-- How two words stand to each other. -/
theorem order_is (a b : Nat) (ha : a < 2 ^ 64) (hb : b < 2 ^ 64) : double.order a b = if nanB a || nanB b then none else some (compare (ky a) (ky b)) := by
  unfold Format.order
  by_cases na : infR < a % 2 ^ 63
  · obtain ⟨s, t, e⟩ := read_nan a na
    have : nanB a = true := by simp [nanB, na]
    rw [e, this]
    simp [Datum.order]
  · by_cases nb : infR < b % 2 ^ 63
    · obtain ⟨s, t, e⟩ := read_nan b nb
      have : nanB b = true := by simp [nanB, nb]
      rw [e, this]
      simp [Datum.order]
      cases double.read a <;> rfl
    · have h1 : nanB a = false := by simp [nanB, Nat.not_lt.1 na]
      have h2 : nanB b = false := by simp [nanB, Nat.not_lt.1 nb]
      rw [h1, h2]
      simp only [Bool.or_false, Bool.false_eq_true, if_false]
      rw [ky_num a (by omega), ky_num b (by omega)]
      have hI : infR = 9218868437227405312 := rfl
      by_cases ia : a % 2 ^ 63 = infR
      · rw [read_inf a ha ia]
        by_cases ib : b % 2 ^ 63 = infR
        · rw [read_inf b hb ib, ia, ib]
          unfold Datum.order sv
          simp only
          congr 1
          by_cases x : 2 ^ 63 ≤ a <;> by_cases y : 2 ^ 63 ≤ b <;> simp only [x, y, decide_true, decide_false] <;> rfl
        · obtain ⟨n, q, eb, _⟩ := read_num b hb (by omega)
          rw [eb]
          unfold Datum.order
          simp only
          by_cases x : 2 ^ 63 ≤ a
          · simp only [x, decide_true, if_true]
            congr 1
            show _ = compareOfLessAndEq _ _
            unfold compareOfLessAndEq sv
            rw [if_pos]
            simp only [if_true]
            split <;> omega
          · simp only [x, decide_false, Bool.false_eq_true, if_false]
            congr 1
            show _ = compareOfLessAndEq _ _
            unfold compareOfLessAndEq sv
            simp only [Bool.false_eq_true, if_false]
            rw [if_neg, if_neg]
            · split <;> omega
            · split <;> omega
      · obtain ⟨m, p, ea, va⟩ := read_num a ha (by omega)
        rw [ea]
        by_cases ib : b % 2 ^ 63 = infR
        · rw [read_inf b hb ib]
          unfold Datum.order
          simp only
          by_cases x : 2 ^ 63 ≤ b
          · simp only [x, decide_true, if_true]
            congr 1
            show _ = compareOfLessAndEq _ _
            unfold compareOfLessAndEq sv
            simp only [if_true]
            rw [if_neg, if_neg]
            · split <;> omega
            · split <;> omega
          · simp only [x, decide_false, Bool.false_eq_true, if_false]
            congr 1
            show _ = compareOfLessAndEq _ _
            unfold compareOfLessAndEq sv
            simp only [Bool.false_eq_true, if_false]
            rw [if_pos]
            split <;> omega
        · obtain ⟨n, q, eb, vb⟩ := read_num b hb (by omega)
          rw [eb]
          exact order_num _ _ m n p q _ _ va vb
theorem cmp_lt (a b : Int) : (some (compare a b) == some .lt) = decide (a < b) := by
  show (some (compareOfLessAndEq a b) == some .lt) = _
  unfold compareOfLessAndEq
  by_cases x : a < b
  · simp [x]
  · by_cases y : a = b <;> simp [x, y]
theorem cmp_gt (a b : Int) : (some (compare a b) == some .gt) = decide (b < a) := by
  show (some (compareOfLessAndEq a b) == some .gt) = _
  unfold compareOfLessAndEq
  by_cases x : a < b
  · have : ¬ b < a := by omega
    simp [x, this]
  · by_cases y : a = b
    · simp [y]
    · have : b < a := by omega
      simp [x, y, this]
theorem cmp_same (a b : Int) : (some (compare a b) == some .eq) = decide (a = b) := by
  show (some (compareOfLessAndEq a b) == some .eq) = _
  unfold compareOfLessAndEq
  by_cases x : a < b
  · have : ¬ a = b := by omega
    simp [x, this]
  · by_cases y : a = b <;> simp [x, y]
theorem lss_is (a b : Nat) (ha : a < 2 ^ 64) (hb : b < 2 ^ 64) : (double.order a b == some .lt) = (!nanB a && !nanB b && lessB a b) := by
  rw [order_is a b ha hb]
  cases h1 : nanB a <;> cases h2 : nanB b <;> simp
  exact cmp_lt _ _
theorem eql_is (a b : Nat) (ha : a < 2 ^ 64) (hb : b < 2 ^ 64) : (double.order a b == some .eq) = (!nanB a && !nanB b && decide (ky a = ky b)) := by
  rw [order_is a b ha hb]
  cases h1 : nanB a <;> cases h2 : nanB b <;> simp
  exact cmp_same _ _
theorem gtr_is (a b : Nat) (ha : a < 2 ^ 64) (hb : b < 2 ^ 64) : (double.order a b == some .gt) = (!nanB a && !nanB b && lessB b a) := by
  rw [order_is a b ha hb]
  cases h1 : nanB a <;> cases h2 : nanB b <;> simp
  exact cmp_gt _ _
theorem self_is (a : Nat) (ha : a < 2 ^ 64) : (double.order a a == some .eq) = !nanB a := by
  rw [eql_is a a ha ha]; cases nanB a <;> simp
theorem ky_nan {a : Nat} (h : nanB a = true) : ky a = 9223372036854775807 := by
  unfold nanB at h; unfold ky
  rw [if_pos (by simpa using h)]
theorem ky_le {a : Nat} (h : nanB a = false) : ky a ≤ 9218868437227405312 := by
  have hI : infR = 9218868437227405312 := rfl
  unfold nanB at h; unfold ky
  rw [if_neg (by simpa using h)]
  have h2 : ¬ infR < a % 2 ^ 63 := by simpa using h
  split <;> omega
theorem ky_ge (a : Nat) : -9218868437227405312 ≤ ky a := by
  have hI : infR = 9218868437227405312 := rfl
  unfold ky
  split
  · omega
  · split <;> omega
/-- What Less answers. -/
theorem less_is (a b : Nat) (ha : a < 2 ^ 64) (hb : b < 2 ^ 64) : ((double.order a b == some .lt) || (!(double.order b b == some .eq) && (double.order a a == some .eq))) = lessB a b := by
  rw [lss_is a b ha hb, self_is a ha, self_is b hb]
  cases h1 : nanB a <;> cases h2 : nanB b <;> simp only [Bool.not_true, Bool.not_false, Bool.false_and, Bool.and_false, Bool.true_and, Bool.and_true, Bool.or_false, Bool.or_true]
  · have := ky_le h1; have := ky_nan h2
    symm; unfold lessB; simp; omega
  · have := ky_le h2; have := ky_nan h1
    symm; unfold lessB; simp; omega
  · have := ky_nan h2; have := ky_nan h1
    symm; unfold lessB; simp; omega
theorem right_ky (a : Nat) (ha : a < 2 ^ 64) : rightB a = (decide (0 ≤ ky a) && decide (ky a < 9218868437227405312)) := by
  have hI : infR = 9218868437227405312 := rfl
  unfold rightB ky
  rw [Bool.eq_iff_iff]
  simp only [Bool.or_eq_true, decide_eq_true_eq, beq_iff_eq, Bool.and_eq_true]
  split
  · omega
  · split <;> omega
/-- What Right answers. -/
theorem right_is (a : Nat) (ha : a < 2 ^ 64) : (((double.order a 0 == some .gt) || (double.order a 0 == some .eq)) && ((double.order a 9218868437227405311 == some .lt) || (double.order a 9218868437227405311 == some .eq))) = rightB a := by
  rw [gtr_is a 0 ha (by decide), eql_is a 0 ha (by decide), lss_is a _ ha (by decide), eql_is a _ ha (by decide), right_ky a ha]
  have k0 : ky 0 = 0 := by decide
  have k1 : ky 9218868437227405311 = 9218868437227405311 := by decide
  have n0 : nanB 0 = false := by decide
  have n1 : nanB 9218868437227405311 = false := by decide
  unfold lessB
  rw [k0, k1, n0, n1]
  cases h : nanB a
  · rw [Bool.eq_iff_iff]
    simp only [Bool.not_false, Bool.true_and, Bool.and_eq_true, Bool.or_eq_true, decide_eq_true_eq]
    omega
  · have := ky_nan h
    rw [this]
    simp
theorem rung_right {a : Nat} (h : rightB a = true) : a < 2 ^ 64 ∧ a % 2 ^ 63 < infR ∧ (2 ^ 63 ≤ a → a % 2 ^ 63 = 0) := by
  have hI : infR = 9218868437227405312 := rfl
  unfold rightB at h
  simp only [Bool.or_eq_true, decide_eq_true_eq, beq_iff_eq] at h
  omega
theorem signed_right (s : Bool) (m u : Nat) (h : s = true → m = 0) : signed s m u = ((m <<< u : Nat) : Int) := by
  unfold signed
  cases s
  · rfl
  · have := h rfl; subst this; simp
/-- What the sum of two costs is that are not both nought. -/
theorem sum_is (a b : Nat) (ha : rightB a = true) (hb : rightB b = true) (hz : ¬ (a % 2 ^ 63 = 0 ∧ b % 2 ^ 63 = 0)) : double.add a b = some (rnd (vl (a % 2 ^ 63) + vl (b % 2 ^ 63))) := by
  obtain ⟨ha1, ha2, ha3⟩ := rung_right ha
  obtain ⟨hb1, hb2, hb3⟩ := rung_right hb
  obtain ⟨m, p, ea, va⟩ := read_num a ha1 ha2
  obtain ⟨n, q, eb, vb⟩ := read_num b hb1 hb2
  unfold Format.add
  rw [ea, eb]
  unfold Datum.sum
  simp only
  obtain ⟨g, hg, hgp, hgq⟩ : ∃ g : Nat, min ((p : Int) - 1074) ((q : Int) - 1074) = (g : Int) - 1074 ∧ g ≤ p ∧ g ≤ q := ⟨min p q, by omega, by omega, by omega⟩
  rw [hg]
  have e1 : ((p : Int) - 1074 - ((g : Int) - 1074)).toNat = p - g := by omega
  have e2 : ((q : Int) - 1074 - ((g : Int) - 1074)).toNat = q - g := by omega
  rw [e1, e2]
  have zz : ∀ (x y z : Nat), x * 2 ^ y = z → z = 0 → x = 0 := fun x y z h h0 => by
    subst h
    rcases Nat.mul_eq_zero.1 h0 with h | h
    · exact h
    · exact absurd h (Nat.ne_of_gt (Nat.two_pow_pos _))
  rw [signed_right _ m _ (fun h => zz m p _ va (vl_eq_zero.2 (ha3 (by simpa using h)))), signed_right _ n _ (fun h => zz n q _ vb (vl_eq_zero.2 (hb3 (by simpa using h))))]
  have hsum : (m <<< (p - g) + n <<< (q - g)) * 2 ^ g = vl (a % 2 ^ 63) + vl (b % 2 ^ 63) := by
    rw [Nat.shiftLeft_eq, Nat.shiftLeft_eq, Nat.add_mul, Nat.mul_assoc, Nat.mul_assoc, ← Nat.pow_add, ← Nat.pow_add, Nat.sub_add_cancel hgp, Nat.sub_add_cancel hgq, va, vb]
  rw [← Int.natCast_add]
  generalize m <<< (p - g) + n <<< (q - g) = M at *
  have hM : M ≠ 0 := fun h => by
    subst h
    rw [Nat.zero_mul] at hsum
    exact hz ⟨vl_eq_zero.1 (by omega), vl_eq_zero.1 (by omega)⟩
  rw [if_neg (by omega)]
  have hneg : decide ((M : Int) < 0) = false := decide_eq_false (by omega)
  simp only [hneg, Int.natAbs_natCast, Option.map_some]
  congr 1
  rw [← hsum]
  exact nearest_is M g _ rfl

theorem addB_comm (a b : Nat) : addB a b = addB b a := by unfold addB; rw [Bool.and_comm, Nat.add_comm]
theorem addB_le (a b : Nat) : addB a b ≤ infR := by
  unfold addB; split
  · exact rnd_le _
  · exact Nat.le_refl _
theorem ky_small {a : Nat} (h : a ≤ infR) : ky a = (a : Int) := by
  have hI : infR = 9218868437227405312 := rfl
  unfold ky
  rw [if_neg (by omega), if_neg (by omega)]
  omega
theorem ky_right {a : Nat} (h : rightB a = true) : ky a = ((a % 2 ^ 63 : Nat) : Int) := by
  have hI : infR = 9218868437227405312 := rfl
  obtain ⟨h1, h2, h3⟩ := rung_right h
  unfold ky
  rw [if_neg (by omega)]
  split
  · have := h3 (by omega); omega
  · rfl
/-- No part is behind the sum. -/
theorem add_ge (a b : Nat) (ha : rightB a = true) (hb : rightB b = true) : lessB (addB a b) a = false := by
  have h1 := addB_le a b
  unfold lessB
  rw [ky_small h1, ky_right ha]
  have : a % 2 ^ 63 ≤ addB a b := by
    unfold addB
    rw [ha, hb]
    simp only [Bool.and_self, if_true]
    have h2 := rnd_mono (a := vl (a % 2 ^ 63)) (b := vl (a % 2 ^ 63) + vl (b % 2 ^ 63)) (by omega)
    rw [rnd_vl _ (Nat.le_of_lt (rung_right ha).2.1)] at h2
    exact h2
  exact decide_eq_false (by omega)
/-- A sum does not fall when a part grows. -/
theorem add_grows (a b c : Nat) (ha : rightB a = true) (hb : rightB b = true) (hc : rightB c = true) (h : lessB c b = false) : lessB (addB a c) (addB a b) = false := by
  have h1 := addB_le a b
  have h2 := addB_le a c
  unfold lessB at *
  rw [ky_right hb, ky_right hc] at h
  have h3 : b % 2 ^ 63 ≤ c % 2 ^ 63 := by
    have := of_decide_eq_false h
    omega
  rw [ky_small h1, ky_small h2]
  have : addB a b ≤ addB a c := by
    unfold addB
    rw [ha, hb, hc]
    simp only [Bool.and_self, if_true]
    exact rnd_mono (by have := vl_le h3; omega)
  exact decide_eq_false (by omega)
end Go.Proofs.Ytfkkciepbmijaab
