/-
  TopoFew: the law's function, walked.
-/
import Derived.Test.YtcjojcaahpkacabOpen
namespace Go.Proofs.Ytcjojcaahpkacab
open Go.ChangeShapes Go.WideShapes Go.ChangeAt Go.RowKit
set_option linter.unusedVariables false

theorem goodB_take {n : Int} {l : List Lk} (h : goodB n l = true) (k : Nat) : goodB n (l.take k) = true := by
  unfold goodB at h ⊢
  simp only [Bool.and_eq_true, decide_eq_true_eq] at h ⊢
  refine ⟨⟨h.1.1, ?_⟩, good_take h.2 k⟩
  have := h.1.2
  rw [List.length_take]
  omega
theorem Ls.take {w : World} {a : Option Addr} {l : List Lk} (h : Ls w a l) (k : Nat) : Ls w a (l.take k) := by
  rcases h with rfl | ⟨b, o, ha, hb, hc⟩
  · exact .inl (by simp)
  · exact .inr ⟨b, o, ha, hb, fun i hi => by
      have hi' : i < l.length := by rw [List.length_take] at hi; omega
      rw [List.getElem_take]
      exact hc i hi'⟩
set_option maxRecDepth 20000 in
set_option maxHeartbeats 4000000 in
theorem few_walk (n : Int) (a : Option Addr) (l : List Lk) (cap : Nat) (many : Int) (w : World) (hl : Ls w a l) (hc : l.length ≤ cap) (hcm : cap ≤ maxLen) : Calls Try.prog 3 #[.int .i64 n, .slice a l.length cap, .int .i64 many] w fun e w' => e = .returned (.bool true) ∧ Below w.heap.size w w' := by
  have hcm2 : cap ≤ 9223372036854775807 := by unfold maxLen at hcm; omega
  have HAw : Hid (∀ u, Below w.heap.size w u → Calls Try.prog 4 #[] u fun e w' => e = .returned (.bool true) ∧ Below w.heap.size w w') := (show ∀ u, _ from fun u k => (awake_any u).mono fun e w' ⟨h1, h2⟩ => ⟨h1, btr k h2 (Nat.le_refl _)⟩)
  clear hcm
  by_cases h1 : l.length ≤ 100
  · by_cases h2 : many < 0
    · clear hl
      go_enter Try.func3, Try.ntmps3
      go_wp2_with (go_at_call 4; refine (HAw.out _ (Below.refl _ _)).mono ?_; rintro r u ⟨rfl, hb⟩; have HB : Hid (Below _ _ u) := hb; clear hb)
      go_ret
      exact ⟨rfl, HB.out⟩
    · obtain ⟨k, rfl⟩ : ∃ k : Nat, many = (k : Int) := ⟨many.toNat, by omega⟩
      by_cases h3 : k ≤ l.length
      · have HN1 : Hid (Calls Try.prog 5 #[.int .i64 n, .slice a l.length cap] w fun r w' => NwR w n l r w') := (show Calls _ _ _ _ _ from new_any n a l cap w hl h1)
        have HN2 : Hid (∀ u, Below w.heap.size w u → Calls Try.prog 5 #[.int .i64 n, .slice a k cap] u fun r w' => NwR u n (l.take k) r w') := (show ∀ u, _ from fun u g => by
          have := new_any n a (l.take k) cap u ((hl.below g).take k) (by rw [List.length_take]; omega)
          rwa [List.length_take, Nat.min_eq_left h3] at this)
        have hkc : k ≤ cap := by omega
        clear hl
        go_enter Try.func3, Try.ntmps3
        go_wp2_with fail
        refine HN1.out.mono ?_
        rintro r w1 ⟨b1, ⟨hg1, _, rfl⟩ | ⟨_, rfl⟩⟩
        · have HG : Hid (goodB n l = true) := hg1
          have HB1 : Hid (Below w.heap.size w w1) := b1
          clear hg1 b1
          go_wp2_with fail
          refine (HN2.out _ HB1.out).mono ?_
          rintro r w2 ⟨b2, ⟨_, ⟨cv, N, hN, ht⟩, rfl⟩ | ⟨hb, _⟩⟩
          · subst hN
            have HT : Hid (Tm w1.heap.size w2 (w1.heap.size + 1) w1.heap.size cv N (l.take k)) := ht
            have HB2 : Hid (Below w.heap.size w w2) := (show Below _ _ _ from btr HB1.out b2 (Nat.le_refl _))
            clear ht b2
            go_wp2_with (first | (go_at_call 6; refine (size_any HT.out).mono ?_; rintro r u ⟨rfl, z⟩; obtain rfl : w2 = u := z.symm; clear z) | (go_at_call 4; refine (HAw.out _ HB2.out).mono ?_; rintro r u ⟨rfl, hb⟩; have HB : Hid (Below _ _ u) := hb; clear hb))
            go_ret
            exact ⟨rfl, HB.out⟩
          · rw [goodB_take HG.out k] at hb
            cases hb
        · have HB1 : Hid (Below w.heap.size w w1) := b1
          clear b1
          go_wp2_with fail
          refine (HN2.out _ HB1.out).mono ?_
          rintro r w2 ⟨b2, ⟨_, ⟨cv, N, hN, ht⟩, rfl⟩ | ⟨hb, rfl⟩⟩
          · have HB2 : Hid (Below w.heap.size w w2) := (show Below _ _ _ from btr HB1.out b2 (Nat.le_refl _))
            clear ht b2 hN
            go_wp2_with (go_at_call 4; refine (HAw.out _ HB2.out).mono ?_; rintro r u ⟨rfl, hb⟩; have HB : Hid (Below _ _ u) := hb; clear hb)
            go_ret
            exact ⟨rfl, HB.out⟩
          · have HB2 : Hid (Below w.heap.size w w2) := (show Below _ _ _ from btr HB1.out b2 (Nat.le_refl _))
            clear b2 hb
            go_wp2_with (go_at_call 4; refine (HAw.out _ HB2.out).mono ?_; rintro r u ⟨rfl, hb⟩; have HB : Hid (Below _ _ u) := hb; clear hb)
            go_ret
            exact ⟨rfl, HB.out⟩
      · have h4 : (l.length : Int) < (k : Int) := by omega
        clear hl
        go_enter Try.func3, Try.ntmps3
        go_wp2_with (go_at_call 4; refine (HAw.out _ (Below.refl _ _)).mono ?_; rintro r u ⟨rfl, hb⟩; have HB : Hid (Below _ _ u) := hb; clear hb)
        go_ret
        exact ⟨rfl, HB.out⟩
  · have h4 : (100 : Int) < (l.length : Int) := by omega
    clear hl
    go_enter Try.func3, Try.ntmps3
    go_wp2_with (go_at_call 4; refine (HAw.out _ (Below.refl _ _)).mono ?_; rintro r u ⟨rfl, hb⟩; have HB : Hid (Below _ _ u) := hb; clear hb)
    go_ret
    exact ⟨rfl, HB.out⟩
end Go.Proofs.Ytcjojcaahpkacab
