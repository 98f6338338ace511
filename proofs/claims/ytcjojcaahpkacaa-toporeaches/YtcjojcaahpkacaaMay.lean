/-
  Whether a link may be, and whether it asks for what another one has.
-/
import Derived.Test.YtcjojcaahpkacaaGet
namespace Go.Proofs.Ytcjojcaahpkacaa
open Go.ChangeShapes Go.WideShapes Go.ChangeAt Go.RowKit
set_option linter.unusedVariables false

theorem ret_bool {a b : Bool} (h : a = b) : Ending.returned (.bool a) = .returned (.bool b) := by rw [h]
set_option maxHeartbeats 2000000 in
theorem may_any {B t e n : Nat} {w : World} {cv : Value} {L : List Lk} (h : Tm B w t e cv n L) (x : Lk) :
    Calls Try.prog 28 #[.pointer (some ⟨t, 0, none⟩), lkV x] w fun r w' => r = .returned (.bool (mayB n x)) ∧ Below w.heap.size w w' := by
  have HH : Hid (∀ s, Calls Try.prog 33 #[.pointer (some ⟨t, 0, none⟩), .int .i64 s] (lx w x) fun e w' => e = .returned (.bool (inB s 1 n)) ∧ w' = lx w x) := (show ∀ s, _ from fun s => has_any (h.alloc _) s)
  clear h
  have key : ∀ b : Bool, mayB n x = b → Calls Try.prog 28 #[.pointer (some ⟨t, 0, none⟩), lkV x] w fun r w' => r = .returned (.bool b) ∧ Below w.heap.size w w' := by
    intro b hb
    unfold mayB at hb
    cases h1 : inB x.a 1 n
    · rw [h1] at hb
      simp only [Bool.false_and] at hb
      subst hb
      go_enter Try.func28, Try.ntmps28
      go_wp2_with (go_at_call 33; refine (HH.out _).mono ?_; rintro r w' ⟨rfl, rfl⟩)
      go_ret
      exact ⟨rfl, by go_grown⟩
    cases h2 : inB x.p 1 16
    · rw [h1, h2] at hb
      simp only [Bool.false_and, Bool.and_false] at hb
      subst hb
      go_enter Try.func28, Try.ntmps28
      go_wp2_with (first | (go_at_call 33; refine (HH.out _).mono ?_; rintro r w' ⟨rfl, rfl⟩) | (go_at_call 34; refine (port_any _ _).mono ?_; rintro r w' ⟨rfl, rfl⟩))
      go_ret
      exact ⟨rfl, by go_grown⟩
    cases h3 : costB x.c
    · rw [h1, h2, h3] at hb
      simp only [Bool.false_and, Bool.and_false] at hb
      subst hb
      go_enter Try.func28, Try.ntmps28
      go_wp2_with (first | (go_at_call 33; refine (HH.out _).mono ?_; rintro r w' ⟨rfl, rfl⟩) | (go_at_call 34; refine (port_any _ _).mono ?_; rintro r w' ⟨rfl, rfl⟩) | (go_at_call 38; refine (cost_any _ _).mono ?_; rintro r w' ⟨rfl, rfl⟩))
      go_ret
      exact ⟨rfl, by go_grown⟩
    rw [h1, h2, h3] at hb
    simp only [Bool.true_and] at hb
    cases h4 : inB x.b (-64) (-1)
    · rw [h4] at hb
      simp only [Bool.false_eq_true, if_false] at hb
      by_cases h5 : x.b = x.a
      · have h5' : (x.b != x.a) = false := by simp [h5]
        simp only [h5, ne_eq, not_true_eq_false, decide_false, Bool.false_and] at hb
        subst hb
        clear h5
        go_enter Try.func28, Try.ntmps28
        go_wp2_with (first | (go_at_call 33; refine (HH.out _).mono ?_; rintro r w' ⟨rfl, rfl⟩) | (go_at_call 34; refine (port_any _ _).mono ?_; rintro r w' ⟨rfl, rfl⟩) | (go_at_call 38; refine (cost_any _ _).mono ?_; rintro r w' ⟨rfl, rfl⟩) | (go_at_call 39; refine (host_any _ _).mono ?_; rintro r w' ⟨rfl, rfl⟩))
        go_ret
        exact ⟨rfl, by go_grown⟩
      · have h5' : (x.b != x.a) = true := by simp [h5]
        simp only [h5, ne_eq, not_false_eq_true, decide_true, Bool.true_and] at hb
        clear h5
        cases h6 : inB x.b 1 n
        · rw [h6, Bool.false_and] at hb
          subst hb
          go_enter Try.func28, Try.ntmps28
          go_wp2_with (first | (go_at_call 33; refine (HH.out _).mono ?_; rintro r w' ⟨rfl, rfl⟩) | (go_at_call 34; refine (port_any _ _).mono ?_; rintro r w' ⟨rfl, rfl⟩) | (go_at_call 38; refine (cost_any _ _).mono ?_; rintro r w' ⟨rfl, rfl⟩) | (go_at_call 39; refine (host_any _ _).mono ?_; rintro r w' ⟨rfl, rfl⟩))
          go_ret
          exact ⟨rfl, by go_grown⟩
        · rw [h6, Bool.true_and] at hb
          have HB : Hid (inB x.q 1 16 = b) := hb
          clear hb
          go_enter Try.func28, Try.ntmps28
          go_wp2_with (first | (go_at_call 33; refine (HH.out _).mono ?_; rintro r w' ⟨rfl, rfl⟩) | (go_at_call 34; refine (port_any _ _).mono ?_; rintro r w' ⟨rfl, rfl⟩) | (go_at_call 38; refine (cost_any _ _).mono ?_; rintro r w' ⟨rfl, rfl⟩) | (go_at_call 39; refine (host_any _ _).mono ?_; rintro r w' ⟨rfl, rfl⟩))
          go_ret
          exact ⟨ret_bool HB.out, by go_grown⟩
    · rw [h4] at hb
      simp only [if_true] at hb
      have HB : Hid ((x.q == 0) = b) := (show _ = b by rw [← hb, Bool.eq_iff_iff]; simp)
      clear hb
      go_enter Try.func28, Try.ntmps28
      go_wp2_with (first | (go_at_call 33; refine (HH.out _).mono ?_; rintro r w' ⟨rfl, rfl⟩) | (go_at_call 34; refine (port_any _ _).mono ?_; rintro r w' ⟨rfl, rfl⟩) | (go_at_call 38; refine (cost_any _ _).mono ?_; rintro r w' ⟨rfl, rfl⟩) | (go_at_call 39; refine (host_any _ _).mono ?_; rintro r w' ⟨rfl, rfl⟩))
      go_ret
      exact ⟨ret_bool HB.out, by go_grown⟩
  exact key _ rfl
/-- isTaken's answer, as the code has it. -/
def takX (n : Nat) (L : List Lk) (x : Lk) : Bool :=
  decide (0 < (peerX n L x.a x.p).2.2) || decide (0 < (peerX n L x.b x.q).2.2) || decide (0 < (homeX L (-x.b)).1)
set_option maxHeartbeats 2000000 in
theorem taken_any {B t e n : Nat} {w : World} {cv : Value} {L : List Lk} (h : Tm B w t e cv n L) (x : Lk) (hb0 : -64 ≤ x.b) (hb1 : x.b ≤ 32) :
    Calls Try.prog 29 #[.pointer (some ⟨t, 0, none⟩), lkV x] w fun r w' => r = .returned (.bool (takX n L x)) ∧ Below w.heap.size w w' := by
  have HP : Hid (∀ w', Below w.heap.size w w' → ∀ s p, Calls Try.prog 12 #[.pointer (some ⟨t, 0, none⟩), .int .i64 s, .int .i64 p] w' fun r w'' => r = .returned (.tuple #[.int .i64 (peerX n L s p).1, .int .i64 (peerX n L s p).2.1, .int .i64 (peerX n L s p).2.2]) ∧ Below w'.heap.size w' w'') := (show ∀ w', _ from fun w' k s p => peer_any (h.below k) s p)
  have HK : Hid (∀ w', Below w.heap.size w w' → ∀ s, Calls Try.prog 20 #[.pointer (some ⟨t, 0, none⟩), .int .i64 s] w' fun r w'' => r = .returned (.tuple #[.int .i64 (homeX L s).1, .int .i64 (homeX L s).2.1]) ∧ Below w'.heap.size w' w'') := (show ∀ w', _ from fun w' k s => home_any (h.below k) s)
  clear h
  obtain ⟨V, hV⟩ : ∃ V, lx w x = V := ⟨_, rfl⟩
  have GV : Below w.heap.size w V := by rw [← hV]; go_grown
  have hc := C5.new w x
  have zV : w.heap.size < V.heap.size := by rw [← hV]; simp
  rw [hV] at hc
  have HX : Hid (∀ w', Below V.heap.size V w' → C5 w' w.heap.size 0 x ∧ Below w.heap.size w w') := (show ∀ w', _ from fun w' k => ⟨hc.below zV k, btr GV k (Nat.le_refl _)⟩)
  have HV : Hid (w.alloc (.cells #[.int .i64 x.a, .int .i64 x.p, .int .i64 x.b, .int .i64 x.q, .float .f64 x.c] 52) = V) := hV
  have HR : Hid (takX n L x = (decide (0 < (peerX n L x.a x.p).2.2) || decide (0 < (peerX n L x.b x.q).2.2) || decide (0 < (homeX L (-x.b)).1))) := (show _ = _ from rfl)
  clear hV GV zV hc
  go_enter Try.func29, Try.ntmps29
  go_wp2_with fail
  rw [HV.out]
  obtain ⟨⟨c0, c1, c2, c3, c4⟩, G0⟩ := HX.out V (Below.refl _ _)
  have HG0 : Hid (Below w.heap.size w V) := G0
  clear G0
  go_wp2_with fail
  refine (HP.out _ HG0.out _ _).mono ?_
  rintro r w1 ⟨rfl, g1⟩
  have H1 : Hid (Below V.heap.size V w1) := g1
  clear g1 c0 c1 c2 c3 c4
  obtain ⟨⟨c0, c1, c2, c3, c4⟩, G1⟩ := HX.out w1 H1.out
  have HG1 : Hid (Below w.heap.size w w1) := G1
  clear G1
  go_wp2_with fail
  refine (HP.out _ HG1.out _ _).mono ?_
  rintro r w2 ⟨rfl, g2⟩
  have H2 : Hid (Below V.heap.size V w2) := (show Below _ _ _ from btr H1.out g2 (Nat.le_refl _))
  clear g2 c0 c1 c2 c3 c4
  obtain ⟨⟨c0, c1, c2, c3, c4⟩, G2⟩ := HX.out w2 H2.out
  have HG2 : Hid (Below w.heap.size w w2) := G2
  clear G2
  go_wp2_with fail
  refine (HK.out _ HG2.out _).mono ?_
  rintro r w3 ⟨rfl, g3⟩
  have H3 : Hid (Below w.heap.size w w3) := (show Below _ _ _ from btr HG2.out g3 (Nat.le_refl _))
  clear g3 c0 c1 c2 c3 c4
  generalize (peerX n L x.a x.p).2.2 = k1 at HR ⊢
  generalize (peerX n L x.b x.q).2.2 = k2 at HR ⊢
  generalize (homeX L (-x.b)).1 = k3 at HR ⊢
  by_cases h1 : 0 < k1
  · go_wp2_with fail
    go_ret
    exact ⟨ret_bool (HR.out.trans (by simp [h1])).symm, H3.out⟩
  · by_cases h2 : 0 < k2
    · go_wp2_with fail
      go_ret
      exact ⟨ret_bool (HR.out.trans (by simp [h2])).symm, H3.out⟩
    · go_wp2_with fail
      go_ret
      exact ⟨ret_bool (HR.out.trans (by simp)).symm, H3.out⟩
end Go.Proofs.Ytcjojcaahpkacaa
