/-
  What a port leads to, where a host is, what a link costs.
-/
import Derived.Test.YtcjojcaahpkacaaSmall
namespace Go.Proofs.Ytcjojcaahpkacaa
open Go.ChangeShapes Go.WideShapes Go.ChangeAt Go.RowKit
set_option linter.unusedVariables false

set_option maxHeartbeats 1000000 in
theorem peer_any {B t e n : Nat} {w : World} {cv : Value} {L : List Lk} (h : Tm B w t e cv n L) (s p : Int) :
    Calls Try.prog 12 #[.pointer (some ⟨t, 0, none⟩), .int .i64 s, .int .i64 p] w fun r w' => r = .returned (.tuple #[.int .i64 (peerX n L s p).1, .int .i64 (peerX n L s p).2.1, .int .i64 (peerX n L s p).2.2]) ∧ Below w.heap.size w w' := by
  have HH : Hid (∀ s, Calls Try.prog 33 #[.pointer (some ⟨t, 0, none⟩), .int .i64 s] w fun e w' => e = .returned (.bool (inB s 1 n)) ∧ w' = w) := (show ∀ s, _ from fun s => has_any h s)
  unfold peerX
  cases h1 : inB s 1 n
  · simp only [Bool.false_and, Bool.false_eq_true, if_false]
    have H1 : Hid (inB s 1 n = false) := h1
    clear h1 h
    go_enter Try.func12, Try.ntmps12
    go_wp2_with (go_at_call 33; refine (HH.out _).mono ?_; rw [H1.out]; rintro r w' ⟨rfl, rfl⟩)
    go_ret3
    exact ⟨rfl, Below.refl _ _⟩
  · cases h2 : inB p 1 16
    · simp only [Bool.and_false, Bool.false_eq_true, if_false]
      have H1 : Hid (inB s 1 n = true) := h1
      have H2 : Hid (inB p 1 16 = false) := h2
      clear h1 h2 h
      go_enter Try.func12, Try.ntmps12
      go_wp2_with (first | (go_at_call 33; refine (HH.out _).mono ?_; rw [H1.out]; rintro r w' ⟨rfl, rfl⟩) | (go_at_call 34; refine (port_any _ _).mono ?_; rw [H2.out]; rintro r w' ⟨rfl, rfl⟩))
      go_ret3
      exact ⟨rfl, Below.refl _ _⟩
    · simp only [Bool.and_true, if_true]
      obtain ⟨a1, a2⟩ := inB_true.1 h1
      obtain ⟨b1, b2⟩ := inB_true.1 h2
      obtain ⟨i, rfl⟩ : ∃ i : Nat, s = (i : Int) + 1 := ⟨(s - 1).toNat, by omega⟩
      obtain ⟨j, rfl⟩ : ∃ j : Nat, p = (j : Int) + 1 := ⟨(p - 1).toNat, by omega⟩
      have hi : i < n := by omega
      have hj : j < 16 := by omega
      have n1 := h.n1
      obtain ⟨x0, x1, x2⟩ := h.ce i j hi hj
      have c0 := h.c0
      generalize peerF 0 L ((i : Int) + 1) ((j : Int) + 1) = x at x0 x1 x2 ⊢
      have H1 : Hid (inB ((i : Int) + 1) 1 n = true) := h1
      have H2 : Hid (inB ((j : Int) + 1) 1 16 = true) := h2
      clear h1 h2 h a1 a2 b1 b2
      go_enter Try.func12, Try.ntmps12
      go_wp2_with (first | (go_at_call 33; refine (HH.out _).mono ?_; rw [H1.out]; rintro r w' ⟨rfl, rfl⟩) | (go_at_call 34; refine (port_any _ _).mono ?_; rw [H2.out]; rintro r w' ⟨rfl, rfl⟩))
      go_quiet (fail)
      go_wp2
      go_ret3
      exact ⟨rfl, bdr (by go_grown) _⟩
set_option maxHeartbeats 1000000 in
theorem home_any {B t e n : Nat} {w : World} {cv : Value} {L : List Lk} (h : Tm B w t e cv n L) (k : Int) :
    Calls Try.prog 20 #[.pointer (some ⟨t, 0, none⟩), .int .i64 k] w fun r w' => r = .returned (.tuple #[.int .i64 (homeX L k).1, .int .i64 (homeX L k).2.1]) ∧ Below w.heap.size w w' := by
  unfold homeX
  cases h1 : inB k 1 64
  · simp only [Bool.false_eq_true, if_false]
    have H1 : Hid (inB k 1 64 = false) := h1
    clear h1 h
    go_enter Try.func20, Try.ntmps20
    go_wp2_with (go_at_call 27; refine (within_any _ _ _ _).mono ?_; rw [H1.out]; rintro r w' ⟨rfl, rfl⟩)
    go_ret2
    exact ⟨rfl, Below.refl _ _⟩
  · simp only [if_true]
    obtain ⟨a1, a2⟩ := inB_true.1 h1
    obtain ⟨i, rfl⟩ : ∃ i : Nat, k = (i : Int) + 1 := ⟨(k - 1).toNat, by omega⟩
    have hi : i < 64 := by omega
    obtain ⟨x0, x1, x2⟩ := h.ch i hi
    generalize homeF 0 L ((i : Int) + 1) = x at x0 x1 x2 ⊢
    have H1 : Hid (inB ((i : Int) + 1) 1 64 = true) := h1
    clear h1 h a1 a2
    go_enter Try.func20, Try.ntmps20
    go_wp2_with (go_at_call 27; refine (within_any _ _ _ _).mono ?_; rw [H1.out]; rintro r w' ⟨rfl, rfl⟩)
    go_quiet (fail)
    go_wp2
    go_ret2
    exact ⟨rfl, bdr (by go_grown) _⟩
/-- What a link costs: its bits. -/
def costX (L : List Lk) (k : Int) : Nat := if inB k 1 L.length then (L.map Lk.c).getD (k - 1).toNat 0 else 0
set_option maxHeartbeats 1000000 in
theorem cost_link {B t e n : Nat} {w : World} {cv : Value} {L : List Lk} (h : Tm B w t e cv n L) (hL : L.length ≤ 64) (k : Int) :
    Calls Try.prog 22 #[.pointer (some ⟨t, 0, none⟩), .int .i64 k] w fun r w' => r = .returned (.float .f64 (costX L k)) ∧ w' = w := by
  obtain ⟨a, cp, rfl, hc⟩ := h.cost
  have cc := h.cc
  unfold costX
  cases h1 : inB k 1 L.length
  · simp only [Bool.false_eq_true, if_false]
    have H1 : Hid (inB k 1 L.length = false) := h1
    clear h1 h hc
    go_enter Try.func22, Try.ntmps22
    go_wp2_with (go_at_call 27; refine (within_any _ _ _ _).mono ?_; rw [H1.out]; rintro r w' ⟨rfl, rfl⟩)
    go_ret
    exact ⟨rfl, rfl⟩
  · simp only [if_true]
    obtain ⟨a1, a2⟩ := inB_true.1 h1
    obtain ⟨i, rfl⟩ : ∃ i : Nat, k = (i : Int) + 1 := ⟨(k - 1).toNat, by omega⟩
    have hi : i < L.length := by omega
    obtain ⟨g, rfl, x0⟩ := hc i hi
    have hx : (L.map Lk.c).getD ((i : Int) + 1 - 1).toNat 0 = L[i].c := by
      rw [show ((i : Int) + 1 - 1).toNat = i by omega]
      simp [hi]
    rw [hx]
    generalize L[i].c = c at x0 ⊢
    have H1 : Hid (inB ((i : Int) + 1) 1 L.length = true) := h1
    clear h1 h a1 a2 hx hc
    go_enter Try.func22, Try.ntmps22
    go_wp2_with (go_at_call 27; refine (within_any _ _ _ _).mono ?_; rw [H1.out]; rintro r w' ⟨rfl, rfl⟩)
    go_ret
    exact ⟨rfl, rfl⟩
end Go.Proofs.Ytcjojcaahpkacaa
