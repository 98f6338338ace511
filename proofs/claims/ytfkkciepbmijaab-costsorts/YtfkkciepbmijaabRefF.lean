/-
  The document's sum: the numbers that its walk meets. Plain mathematics.
-/
import Derived.Test.YtfkkciepbmijaabRefD
namespace Go.Proofs.Ytfkkciepbmijaab
open Go.ChangeShapes Go.WideShapes Go.ChangeAt Go.RowKit
set_option linter.unusedVariables false

theorem st1_le (S : Nat) (h : S < 2 ^ 64) : st S 1 ≤ 2 ^ 63 := by
  unfold st
  simp only [Nat.pow_one]
  split <;> omega
theorem facts (m e n f : Nat) (hf : 1 ≤ f) (hfe : f ≤ e) (he : e ≤ 2046) (hm : m < 2 ^ 53) (hn : n < 2 ^ 53) :
    ∃ A B d T S : Nat, IntKind.u64.wrap ((m : Int) * 1024) = (A : Int) ∧ IntKind.u64.wrap ((n : Int) * 1024) = (B : Int) ∧ IntKind.u64.wrap ((e : Int) - (f : Int)) = (d : Int) ∧ B < 2 ^ 64 ∧ d < 2 ^ 63 ∧ st B d = T ∧ IntKind.u64.wrap ((A : Int) + (T : Int)) = (S : Int) ∧ S < 2 ^ 64 ∧
      ((¬ (9223372036854775808 : Int) ≤ (S : Int) ∧ S ≤ 2 ^ 63 ∧ outR S e = refR m e n f) ∨
        ((9223372036854775808 : Int) ≤ (S : Int) ∧ ∃ S1 E1 : Nat, st S 1 = S1 ∧ IntKind.u64.wrap ((e : Int) + 1) = (E1 : Int) ∧ 1 ≤ E1 ∧ E1 ≤ 2047 ∧ S1 ≤ 2 ^ 63 ∧ outR S1 E1 = refR m e n f)) := by
  have hT : st (n * 1024) (e - f) < 2 ^ 63 := by
    unfold st
    by_cases h0 : e - f = 0
    · rw [h0]
      simp [Nat.mod_one]
      omega
    · obtain ⟨k, hk⟩ : ∃ k, e - f = k + 1 := ⟨e - f - 1, by omega⟩
      rw [hk, Nat.pow_succ 2 k]
      have h1 : n * 1024 / (2 ^ k * 2) ≤ n * 1024 / 2 := Nat.div_le_div_left (by have := Nat.two_pow_pos k; omega) (by omega)
      generalize n * 1024 / (2 ^ k * 2) = z at *
      split <;> omega
  refine ⟨m * 1024, n * 1024, e - f, _, m * 1024 + st (n * 1024) (e - f), ?_, ?_, ?_, by omega, by omega, rfl, ?_, by omega, ?_⟩
  · rw [wr_u64 _ (by omega) (by omega)]; omega
  · rw [wr_u64 _ (by omega) (by omega)]; omega
  · rw [wr_u64 _ (by omega) (by omega)]; omega
  · rw [wr_u64 _ (by omega) (by omega)]; omega
  · by_cases c : 2 ^ 63 ≤ m * 1024 + st (n * 1024) (e - f)
    · right
      refine ⟨by omega, st (m * 1024 + st (n * 1024) (e - f)) 1, e + 1, rfl, ?_, by omega, by omega, ?_, ?_⟩
      · rw [wr_u64 _ (by omega) (by omega)]; omega
      · exact st1_le _ (by omega)
      · unfold refR
        rw [if_pos c]
    · left
      refine ⟨by omega, by omega, ?_⟩
      unfold refR
      rw [if_neg c]
theorem rhe10_up (S : Nat) (h : 512 < S % 1024 ∨ S % 1024 = 512 ∧ S / 1024 % 2 = 1) : rhe S 10 = S / 1024 + 1 := by
  unfold rhe
  have h2 : (2 : Nat) ^ 10 = 1024 := rfl
  rw [h2]
  congr 1
  rcases h with h | ⟨h, g⟩
  · rw [decide_eq_true (by omega)]; rfl
  · rw [beq_iff_eq.2 (show 1024 = 2 * (S % 1024) by omega), g]
    simp
theorem rhe10_dn (S : Nat) (h : ¬ 512 < S % 1024) (g : ¬ (S % 1024 = 512 ∧ S / 1024 % 2 = 1)) : rhe S 10 = S / 1024 := by
  unfold rhe
  have h2 : (2 : Nat) ^ 10 = 1024 := rfl
  rw [h2, decide_eq_false (by omega)]
  by_cases c : S % 1024 = 512
  · have : (S / 1024 % 2 == 1) = false := beq_eq_false_iff_ne.2 (fun x => g ⟨c, x⟩)
    rw [this]
    simp
  · rw [beq_eq_false_iff_ne.2 (show 1024 ≠ 2 * (S % 1024) by omega)]
    simp
theorem tail_out (S E Q : Nat) (hS : S ≤ 2 ^ 63) (hE1 : 1 ≤ E) (hE : E ≤ 2047) (hQ : rhe S 10 = Q) (hQl : Q ≤ S / 1024 + 1) : ∃ g h o : Nat, IntKind.u64.wrap ((E : Int) - 1) = (g : Int) ∧ IntKind.u64.wrap ((g : Int) * 4503599627370496) = (h : Int) ∧ IntKind.u64.wrap ((h : Int) + (Q : Int)) = (o : Int) ∧
      ((9218868437227405312 : Int) < (o : Int) ∧ outR S E = infR ∨ ¬ (9218868437227405312 : Int) < (o : Int) ∧ outR S E = o) := by
  have hI : infR = 9218868437227405312 := rfl
  refine ⟨E - 1, (E - 1) * 2 ^ 52, (E - 1) * 2 ^ 52 + Q, ?_, ?_, ?_, ?_⟩
  · rw [wr_u64 _ (by omega) (by omega)]; omega
  · rw [wr_u64 _ (by omega) (by omega)]; omega
  · rw [wr_u64 _ (by omega) (by omega)]; omega
  · unfold outR
    rw [hQ]
    by_cases c : (9218868437227405312 : Int) < (((E - 1) * 2 ^ 52 + Q : Nat) : Int)
    · exact .inl ⟨c, by omega⟩
    · exact .inr ⟨c, by omega⟩
theorem tail (S E : Nat) (hS : S ≤ 2 ^ 63) (hE1 : 1 ≤ E) (hE : E ≤ 2047) : ∃ q r g h Q o : Nat, (S : Int) / 1024 = (q : Int) ∧ (S : Int) % 1024 = (r : Int) ∧ IntKind.u64.wrap ((E : Int) - 1) = (g : Int) ∧ IntKind.u64.wrap ((g : Int) * 4503599627370496) = (h : Int) ∧ IntKind.u64.wrap ((h : Int) + (Q : Int)) = (o : Int) ∧
      (((512 : Int) < (r : Int) ∧ IntKind.u64.wrap ((q : Int) + 1) = (Q : Int)) ∨ (¬ (512 : Int) < (r : Int) ∧ ((r : Int) == 512) = true ∧ (q : Int) % 2 = 1 ∧ IntKind.u64.wrap ((q : Int) + 1) = (Q : Int)) ∨ (¬ (512 : Int) < (r : Int) ∧ ((r : Int) == 512) = true ∧ (q : Int) % 2 = 0 ∧ q = Q) ∨ (¬ (512 : Int) < (r : Int) ∧ ((r : Int) == 512) = false ∧ q = Q)) ∧
      ((9218868437227405312 : Int) < (o : Int) ∧ outR S E = infR ∨ ¬ (9218868437227405312 : Int) < (o : Int) ∧ outR S E = o) := by
  by_cases c : 512 < S % 1024 ∨ S % 1024 = 512 ∧ S / 1024 % 2 = 1
  · obtain ⟨g, h, o, h1, h2, h3, h4⟩ := tail_out S E _ hS hE1 hE (rhe10_up S c) (Nat.le_refl _)
    refine ⟨S / 1024, S % 1024, g, h, S / 1024 + 1, o, by omega, by omega, h1, h2, h3, ?_, h4⟩
    have hw : IntKind.u64.wrap (((S / 1024 : Nat) : Int) + 1) = ((S / 1024 + 1 : Nat) : Int) := by rw [wr_u64 _ (by omega) (by omega)]; omega
    rcases c with c | ⟨c, d⟩
    · exact .inl ⟨by omega, hw⟩
    · exact .inr (.inl ⟨by omega, beq_iff_eq.2 (by omega), by omega, hw⟩)
  · obtain ⟨g, h, o, h1, h2, h3, h4⟩ := tail_out S E _ hS hE1 hE (rhe10_dn S (fun x => c (.inl x)) (fun x => c (.inr x))) (Nat.le_succ _)
    refine ⟨S / 1024, S % 1024, g, h, S / 1024, o, by omega, by omega, h1, h2, h3, ?_, h4⟩
    right; right
    by_cases d : S % 1024 = 512
    · exact .inl ⟨by omega, beq_iff_eq.2 (by omega), by omega, rfl⟩
    · exact .inr ⟨by omega, beq_eq_false_iff_ne.2 (by omega), rfl⟩
end Go.Proofs.Ytfkkciepbmijaab
