/-
  PredApart, walked.
-/
import Derived.Test.YtmobmpghpdaddaaRefD
import Derived.Test.YtmobmpghpdaddaaLawUse
namespace Go.Proofs.Ytmobmpghpdaddaa
open Go.ChangeShapes Go.WideShapes Go.ChangeAt Go.RowKit
set_option linter.unusedVariables false
set_option linter.unusedSimpArgs false

set_option maxRecDepth 20000 in
set_option maxHeartbeats 4000000 in
theorem apart_walk (a : Option Addr) (l : List Nd) (cap : Nat) (b : Option Addr) (m : List Nd) (mc : Nat) (w : World) (hs : Ns w a l) (hss : ∀ x ∈ l, x.s.length ≤ 9223372036854775807) (hl : l.length ≤ 9223372036854775807) (hlc : l.length ≤ cap) (ht : Ns w b m) (hst : ∀ x ∈ m, x.s.length ≤ 9223372036854775807) (hm : m.length ≤ 9223372036854775807) (hmc : m.length ≤ mc) :
    Calls Try.prog 8 #[.agg #[.slice a l.length cap], .agg #[.slice b m.length mc]] w fun e w' => e = .returned (.bool true) ∧ Below w.heap.size w w' := by
  obtain ⟨X, hX⟩ : ∃ X, (w.alloc (.cells #[.slice a l.length cap] 24)).alloc (.cells #[.slice b m.length mc] 24) = X := ⟨_, rfl⟩
  have gX : Below w.heap.size w X := by rw [← hX]; go_grown
  have zX : X.heap.size = w.heap.size + 2 := by rw [← hX]; simp
  have c0 : X.cell? ⟨w.heap.size, 0, none⟩ = some (.slice a l.length cap) := by rw [← hX]; simp
  have c1 : X.cell? ⟨w.heap.size + 1, 0, none⟩ = some (.slice b m.length mc) := by rw [← hX]; simp
  have HG : Hid (Below w.heap.size w X ∧ w.heap.size + 1 < X.heap.size) := ⟨gX, by omega⟩
  have HC : Hid (∀ u, Below X.heap.size X u → u.cell? ⟨w.heap.size, 0, none⟩ = some (.slice a l.length cap) ∧ u.cell? ⟨w.heap.size + 1, 0, none⟩ = some (.slice b m.length mc)) := (show ∀ u, _ from fun u g => ⟨(g.cell (p := ⟨w.heap.size, 0, none⟩) (by show w.heap.size < _; omega)).trans c0, (g.cell (p := ⟨w.heap.size + 1, 0, none⟩) (by show w.heap.size + 1 < _; omega)).trans c1⟩)
  have HAw : Hid (∀ u, Below X.heap.size X u → Calls Try.prog 13 #[] u fun e w' => e = .returned (.bool true) ∧ Below X.heap.size X w') := (show ∀ u, _ from fun u g => (awake_any u).mono fun e w' ⟨h1, h2⟩ => ⟨h1, btr g h2 (Nat.le_refl _)⟩)
  have HD : Hid (Calls Try.prog 36 #[.agg #[.slice a l.length cap], .agg #[.slice b m.length mc]] X fun e w' => e = .returned (.tuple #[.bool (djP l m).1, .int .i64 (djP l m).2]) ∧ Below X.heap.size X w') := (show Calls _ _ _ _ _ from disjoint_any a l cap b m mc X (hs.below gX) (ht.below gX) hl hm hss hst)
  have HE : Hid (∀ u, Below X.heap.size X u → Calls Try.prog 37 #[.agg #[.slice a l.length cap], .agg #[.slice b m.length mc]] u fun e w' => e = .returned (.tuple #[.bool (djP l m).1, .int .i64 (djP l m).2]) ∧ Below X.heap.size X w') := (show ∀ u, _ from fun u g => (rdisj_any a l cap b m mc u ((hs.below gX).below g) ((ht.below gX).below g) hl hm hss hst).mono fun e w' ⟨h1, h2⟩ => ⟨h1, btr g h2 (Nat.le_refl _)⟩)
  generalize (djP l m).1 = q at *
  generalize (djP l m).2 = ee at *
  generalize l.length = n at *
  generalize m.length = k at *
  have b1 : (q == q) = true := by cases q <;> rfl
  have b2 : (ee == ee) = true := by simp
  have b3 : decide (ee = ee) = true := by simp
  clear hs hss hst hlc hmc ht gX zX
  by_cases h1 : n ≤ 14
  · have j1 : ¬ (14 : Int) < (n : Int) := by omega
    have j2 : decide ((14 : Int) < (n : Int)) = false := decide_eq_false j1
    by_cases h2 : k ≤ 14
    · have j3 : ¬ (14 : Int) < (k : Int) := by omega
      have j4 : decide ((14 : Int) < (k : Int)) = false := decide_eq_false j3
      go_enter Try.func8, Try.ntmps8
      go_wp2_with (first
        | (go_at_call 36; refine HD.out.mono ?_; rintro e w1 ⟨rfl, h1⟩; have HB1 : Hid (Below X.heap.size X w1) := h1; have k1 := (HC.out w1 h1).1; have k2 := (HC.out w1 h1).2; clear h1)
        | (go_at_call 37; refine (HE.out _ HB1.out).mono ?_; rintro e w2 ⟨rfl, h1⟩; have HB2 : Hid (Below X.heap.size X w2) := h1; clear h1)
        | (go_at_call 13; refine (HAw.out _ HB2.out).mono ?_; rintro e w3 ⟨rfl, h1⟩; have HB3 : Hid (Below X.heap.size X w3) := h1; clear h1)
        | fail)
      go_ret
      exact ⟨rfl, btr HG.out.1 HB3.out (by have := HG.out.2; omega)⟩
    · have j3 : (14 : Int) < (k : Int) := by omega
      have j4 : decide ((14 : Int) < (k : Int)) = true := decide_eq_true j3
      have HAx : Hid (Calls Try.prog 13 #[] X fun e w' => e = .returned (.bool true) ∧ Below X.heap.size X w') := HAw.out X (Below.refl _ _)
      go_enter Try.func8, Try.ntmps8
      go_wp2_with (go_at_call 13; refine HAx.out.mono ?_; rintro e w3 ⟨rfl, h1⟩; have HB3 : Hid (Below X.heap.size X w3) := h1; clear h1)
      go_ret
      exact ⟨rfl, btr HG.out.1 HB3.out (by have := HG.out.2; omega)⟩
  · have j1 : (14 : Int) < (n : Int) := by omega
    have j2 : decide ((14 : Int) < (n : Int)) = true := decide_eq_true j1
    have HAx : Hid (Calls Try.prog 13 #[] X fun e w' => e = .returned (.bool true) ∧ Below X.heap.size X w') := HAw.out X (Below.refl _ _)
    go_enter Try.func8, Try.ntmps8
    go_wp2_with (go_at_call 13; refine HAx.out.mono ?_; rintro e w3 ⟨rfl, h1⟩; have HB3 : Hid (Below X.heap.size X w3) := h1; clear h1)
    go_ret
    exact ⟨rfl, btr HG.out.1 HB3.out (by have := HG.out.2; omega)⟩
end Go.Proofs.Ytmobmpghpdaddaa
