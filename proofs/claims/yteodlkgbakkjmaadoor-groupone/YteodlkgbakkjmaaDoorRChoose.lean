/-
  What the document's alive and Choose answer, as contracts; that the program's choice is the document's.
-/
import Derived.Test.YteodlkgbakkjmaaDoorChooseW
namespace Go.Proofs.YteodlkgbakkjmaaDoor
open Go.ChangeShapes Go.WideShapes Go.ChangeAt Go.RowKit
set_option linter.unusedVariables false

/-- The place from the end is the place from the beginning. -/
theorem goAt_in : ∀ (x : List Bk) (b : Bk) (y : List Bk) (n : Int), Wt x → sumW x ≤ n → n < sumW x + b.we → goAt (x ++ b :: y) n = [b]
  | [], b, y, n, _, h0, h1 => by
    simp only [sumW] at h0 h1
    rw [List.nil_append, goAt, if_pos (by omega)]
  | a :: x, b, y, n, hW, h0, h1 => by
    have ha := hW a (by simp)
    have hx : Wt x := fun z hz => hW z (by simp [hz])
    have hs := hx.sum
    simp only [sumW] at h0 h1
    rw [List.cons_append, goAt, if_neg (by omega)]
    exact goAt_in x b y (n - a.we) hx (by omega) (by omega)
theorem at_split : ∀ (l : List Bk) (n : Int), Wt l → 0 ≤ n → n < sumW l → ∃ x b y, l = x ++ b :: y ∧ sumW x ≤ n ∧ n < sumW x + b.we
  | [], n, _, h0, h1 => by simp only [sumW] at h1; omega
  | a :: l, n, hW, h0, h1 => by
    by_cases h : n < a.we
    · exact ⟨[], a, l, rfl, by simpa [sumW] using h0, by simpa [sumW] using h⟩
    · simp only [sumW] at h1
      obtain ⟨x, b, y, e, h2, h3⟩ := at_split l (n - a.we) (fun z hz => hW z (by simp [hz])) (by omega) (by omega)
      exact ⟨a :: x, b, y, by rw [e]; rfl, by simp only [sumW]; omega, by simp only [sumW]; omega⟩
theorem sumW_rev (l : List Bk) : sumW l.reverse = sumW l := by
  induction l with
  | nil => rfl
  | cons b l ih => rw [List.reverse_cons, sumW_append, ih]; simp only [sumW]; omega
theorem goAt_rev {l : List Bk} (hW : Wt l) {m : Int} (h0 : 0 ≤ m) (h1 : m < sumW l) : goAt l.reverse (sumW l - 1 - m) = goAt l m := by
  obtain ⟨x, b, y, e, h2, h3⟩ := at_split l m hW h0 h1
  subst e
  rw [goAt_in x b y m (fun z hz => hW z (by simp [hz])) h2 h3]
  have e1 : (x ++ b :: y).reverse = y.reverse ++ b :: x.reverse := by simp
  rw [e1]
  have hs := sumW_append x (b :: y)
  simp only [sumW] at hs
  have hr := sumW_rev y
  exact goAt_in y.reverse b x.reverse _ (fun z hz => hW z (by simp at hz; simp [hz])) (by omega) (by omega)
theorem neg_mod (n S : Int) (h : 0 < S) : (-(n + 1)) % S = S - 1 - n % S := by
  have h1 := Int.emod_add_mul_ediv n S
  have h2 := Int.emod_nonneg n (show S ≠ 0 by omega)
  have h3 := Int.emod_lt_of_pos n h
  have e : -(n + 1) = (S - 1 - n % S) + S * (-(n / S) - 1) := by
    rw [Int.mul_sub, Int.mul_neg, Int.mul_one]
    omega
  rw [e, Int.add_mul_emod_self_left]
  exact Int.emod_eq_of_lt (by omega) (by omega)
theorem pick_at {l : List Bk} (hW : Wt l) (n : Int) : pickL l n = atL l n := by
  unfold pickL
  split
  · unfold atL
    by_cases hl : l = []
    · subst hl; rfl
    · rw [if_neg (by simpa using hl), if_neg hl, sumW_rev]
      have hp := hW.pos hl
      rw [neg_mod n _ hp]
      exact goAt_rev hW (Int.emod_nonneg _ (by omega)) (Int.emod_lt_of_pos _ hp)
  · rfl
theorem filt_two (live : List Bool) (l : List Bk) : (l.filter fun b => alvB live b.wa).filter (fun b => decide (0 < b.we)) = l.filter fun b => alvB live b.wa && decide (0 < b.we) := by
  rw [List.filter_filter]
  congr 1
  funext b
  exact Bool.and_comm _ _
/-- Whether the document counts a bucket. -/
abbrev mayB (live : List Bool) (b : Bk) : Bool := alvB live b.wa && decide (0 < b.we)
set_option maxRecDepth 20000 in
set_option maxHeartbeats 4000000 in
theorem ralive_any (b : Bk) (la : Option Addr) (live : List Bool) (lc : Nat) (w : World) (hV : Ls w la live) (hm : live.length ≤ 1000) :
    Calls Tryd.prog 48 #[bkV b, .slice la live.length lc] w fun e w' => e = .returned (.bool (alvB live b.wa)) ∧ Below w.heap.size w w' := by
  obtain ⟨wa, we, xa, xl, xc⟩ := b
  show Calls Tryd.prog 48 #[.agg #[.int .i64 wa, .int .i64 we, .slice xa xl.length xc], .slice la live.length lc] w fun e w' => e = .returned (.bool (alvB live wa)) ∧ Below w.heap.size w w'
  cases h0 : (wa == 0) with
  | true =>
    have hA : alvB live wa = true := by unfold alvB; rw [h0]; rfl
    rw [hA]
    clear hV hA
    go_enter Tryd.func48, Tryd.ntmps48
    go_wp2_with fail
    go_ret
    exact ⟨rfl, by go_grown⟩
  | false =>
    have hne : wa ≠ 0 := by simpa using h0
    by_cases h1 : 0 < wa
    · have d1 : decide (0 < wa) = true := decide_eq_true h1
      by_cases h2 : wa < live.length
      · have d2 : decide (wa < (live.length : Int)) = true := decide_eq_true h2
        have hlv : wa.toNat < live.length := by omega
        obtain ⟨lg, lo, rfl, hlg, hlc⟩ : ∃ g o, la = some ⟨g, o, none⟩ ∧ g < w.heap.size ∧ ∀ i (h : i < live.length), w.cell? ⟨g, o + i, none⟩ = some (.bool live[i]) := by
          rcases hV with h | h
          · subst h; simp at hlv
          · exact h
        have hcell := hlc wa.toNat hlv
        have hA : alvB live wa = live[wa.toNat] := by
          have hi : inB wa 1 ((live.length : Int) - 1) = true := by unfold inB; simp; omega
          unfold alvB livB
          rw [h0, hi]
          simp [List.getD, hlv]
        rw [hA]
        clear hlc hV hA
        generalize live[wa.toNat] = LB at *
        go_enter Tryd.func48, Tryd.ntmps48
        go_wp2_with fail
        go_ret
        exact ⟨rfl, by go_grown⟩
      · have d2 : decide (wa < (live.length : Int)) = false := decide_eq_false h2
        have hA : alvB live wa = false := by
          have hi : inB wa 1 ((live.length : Int) - 1) = false := by unfold inB; simp; omega
          unfold alvB; rw [h0, hi]; rfl
        rw [hA]
        clear hV hA h2
        go_enter Tryd.func48, Tryd.ntmps48
        go_wp2_with fail
        go_ret
        exact ⟨rfl, by go_grown⟩
    · have d1 : decide (0 < wa) = false := decide_eq_false h1
      have hA : alvB live wa = false := by
        have hi : inB wa 1 ((live.length : Int) - 1) = false := by unfold inB; simp; omega
        unfold alvB; rw [h0, hi]; rfl
      rw [hA]
      clear hV hA h1
      go_enter Tryd.func48, Tryd.ntmps48
      go_wp2_with fail
      go_ret
      exact ⟨rfl, by go_grown⟩
end Go.Proofs.YteodlkgbakkjmaaDoor
