/-
  TopoHomes: the law's function, walked.
-/
import Derived.Test.YtcjojcaahpkacaaOpen
import Derived.Test.YtcjojcaahpkacaaRefNew
namespace Go.Proofs.Ytcjojcaahpkacaa
open Go.ChangeShapes Go.WideShapes Go.ChangeAt Go.RowKit
set_option linter.unusedVariables false

theorem cost_same {c : Nat} (h : costB c = true) : (FloatKind.f64.format.order c c == some .eq) = true := by
  unfold costB costLo at h
  simp only [Bool.and_eq_true] at h
  have h1 := h.1
  unfold Ieee.Format.order at h1 ⊢
  generalize FloatKind.f64.format.read c = d at h1 ⊢
  cases d with
  | nan a b => simp [Ieee.Datum.order] at h1
  | infinity s => simp [Ieee.Datum.order]
  | number s m e => simp [Ieee.Datum.order]
theorem zero_same : (FloatKind.f64.format.order 0 0 == some .eq) = true := by kernel_rfl
theorem costX_same {n : Int} {L : List Lk} (h : goodF n [] L = true) (k : Int) : (FloatKind.f64.format.order (costX L k) (costX L k) == some .eq) = true := by
  unfold costX
  cases h1 : inB k 1 L.length
  · exact zero_same
  · rw [if_pos rfl]
    have := inB_true.1 h1
    have hi : (k - 1).toNat < L.length := by omega
    have e : (L.map Lk.c).getD (k - 1).toNat 0 = L[(k - 1).toNat].c := by
      rw [List.getD_eq_getElem?_getD, List.getElem?_map, List.getElem?_eq_getElem hi]
      rfl
    rw [e]
    exact cost_same (mayB_true (good_may h _ (List.getElem_mem hi))).2.2.1
theorem home_eq {n : Int} {L : List Lk} (h : goodF n [] L = true) (k : Int) : rhomeX L k = homeX L k := by
  unfold rhomeX homeX
  cases h1 : inB k 1 64
  · have := inB_false.1 h1
    simp only [Bool.false_eq_true, if_false]
    by_cases h0 : 0 < k
    · rw [if_pos h0]
      exact home_big L 0 k (fun y hy => may_b (good_may h y hy)) (by omega)
    · rw [if_neg h0]
  · have := inB_true.1 h1
    rw [if_pos (by omega), if_pos rfl]
set_option maxRecDepth 20000 in
set_option maxHeartbeats 8000000 in
theorem homes_walk (n : Int) (a : Option Addr) (l : List Lk) (cap : Nat) (q : Int) (w : World) (hn : -9223372036854775808 ≤ n ∧ n < 9223372036854775808) (hl : Ls w a l) (hc : l.length ≤ cap) (hcm : cap ≤ maxLen) (hq : -9223372036854775808 ≤ q ∧ q < 9223372036854775808) :
    Calls Try.prog 4 #[.int .i64 n, .slice a l.length cap, .int .i64 q] w fun e w' => e = .returned (.bool true) ∧ Below w.heap.size w w' := by
  have HAw : Hid (∀ u, Below w.heap.size w u → Calls Try.prog 9 #[] u fun e w' => e = .returned (.bool true) ∧ Below w.heap.size w w') := (show ∀ u, _ from fun u k => (awake_any u).mono fun e w' ⟨h1, h2⟩ => ⟨h1, btr k h2 (Nat.le_refl _)⟩)
  have HQ : Hid (q ≤ 9223372036854775807) := (show _ ≤ _ by omega)
  clear hcm hc hn hq
  by_cases h1 : l.length ≤ 100
  · have HN1 : Hid (Calls Try.prog 10 #[.int .i64 n, .slice a l.length cap] w fun r w' => NwR w n l r w') := (show Calls _ _ _ _ _ from new_any n a l cap w hl h1)
    have HN2 : Hid (∀ u, Below w.heap.size w u → Calls Try.prog 11 #[.int .i64 n, .slice a l.length cap] u fun r w' => RwR u n l r w') := (show ∀ u, _ from fun u g => rnew_any n a l cap u (hl.below g) h1)
    clear hl
    go_enter Try.func4, Try.ntmps4
    go_wp2_with fail
    refine HN1.out.mono ?_
    rintro r w1 ⟨b1, ⟨hg1, ⟨cv, N, hN, ht⟩, rfl⟩ | ⟨hg1, rfl⟩⟩
    · have hgf : goodF N [] l = true := by
        unfold goodB at hg1
        rw [hN]
        simp only [Bool.and_eq_true] at hg1
        exact hg1.2
      have HGB : Hid (goodB n l = true) := hg1
      have HB1 : Hid (Below w.heap.size w w1) := b1
      have HT1 : Hid (Tm w.heap.size w1 (w.heap.size + 1) w.heap.size cv N l) := ht
      have HG : Hid (goodF N [] l = true) := hgf
      clear hg1 hN ht b1 hgf HN1
      go_wp2_with fail
      refine (HN2.out _ HB1.out).mono ?_
      rintro r w2 ⟨b2, ⟨_, rb, M, ra, rc, hM, hrt, rfl⟩ | ⟨hg2, rfl⟩⟩
      · have HR2 : Hid (RTm w2 rb M ra rc l) := hrt
        have HB2 : Hid (Below w.heap.size w w2) := (show Below _ _ _ from btr HB1.out b2 (Nat.le_refl _))
        have HT2 : Hid (Tm w.heap.size w2 (w.heap.size + 1) w.heap.size cv N l) := HT1.out.below b2
        have h64 : Hid (l.length ≤ 64) := (show _ ≤ _ by
          have := HGB.out
          unfold goodB at this
          simp only [Bool.and_eq_true, decide_eq_true_eq] at this
          exact this.1.2)
        clear b2 hrt hM
        go_wp2_with fail
        refine (home_any HT2.out q).mono ?_
        rintro r w3 ⟨rfl, g3⟩
        have HR3 : Hid (RTm w3 rb M ra rc l) := HR2.out.below g3
        have HT3 : Hid (Tm w.heap.size w3 (w.heap.size + 1) w.heap.size cv N l) := HT2.out.below g3
        have HB3 : Hid (Below w.heap.size w w3) := (show Below _ _ _ from btr HB2.out g3 (Nat.le_refl _))
        clear g3
        have hrh := rhome_any HR3.out h1 q HQ.out
        rw [home_eq HG.out q] at hrh
        have HRh : Hid (Calls Try.prog 21 #[.pointer (some ⟨rb, 0, none⟩), .int .i64 q] w3 fun e w' => e = .returned (.tuple #[.int .i64 (homeX l q).1, .int .i64 (homeX l q).2.1]) ∧ Below w3.heap.size w3 w') := hrh
        clear hrh
        go_wp2_with fail
        refine HRh.out.mono ?_
        rintro r w4 ⟨rfl, g4⟩
        have HR4 : Hid (RTm w4 rb M ra rc l) := HR3.out.below g4
        have HT4 : Hid (Tm w.heap.size w4 (w.heap.size + 1) w.heap.size cv N l) := HT3.out.below g4
        have HB4 : Hid (Below w.heap.size w w4) := (show Below _ _ _ from btr HB3.out g4 (Nat.le_refl _))
        have HC4 : Hid (Calls Try.prog 22 #[.pointer (some ⟨w.heap.size + 1, 0, none⟩), .int .i64 q] w4 fun r w' => r = .returned (.float .f64 (costX l q)) ∧ w' = w4) := (show Calls _ _ _ _ _ from cost_link HT4.out h64.out q)
        have HC5 : Hid (Calls Try.prog 23 #[.pointer (some ⟨rb, 0, none⟩), .int .i64 q] w4 fun r w' => r = .returned (.float .f64 (costX l q)) ∧ w' = w4) := (show Calls _ _ _ _ _ from rcost_any HR4.out h1 q)
        have hz : (binOp .eql 43 (.float .f64 (costX l q)) (.float .f64 (costX l q)) : Sem Value) = pure (.bool true) := (binOp_float_cmp_eql _ _ _ _).trans (by rw [costX_same HG.out q])
        clear g4
        generalize homeX l q = y at *
        generalize costX l q = z at *
        go_wp2_with (first
          | (go_at_call 22; refine HC4.out.mono ?_; rintro r u ⟨rfl, e⟩; obtain rfl : w4 = u := e.symm; clear e)
          | (go_at_call 23; refine HC5.out.mono ?_; rintro r u ⟨rfl, e⟩; obtain rfl : w4 = u := e.symm; clear e)
          | (go_at_call 9; refine (HAw.out _ HB4.out).mono ?_; rintro r u ⟨rfl, hb⟩; have HB : Hid (Below _ _ u) := hb; clear hb))
        go_ret
        exact ⟨rfl, HB.out⟩
      · rw [HGB.out] at hg2
        cases hg2
    · have HGB : Hid (goodB n l = false) := hg1
      have HB1 : Hid (Below w.heap.size w w1) := b1
      clear hg1 b1 HN1
      go_wp2_with fail
      refine (HN2.out _ HB1.out).mono ?_
      rintro r w2 ⟨b2, ⟨hg2, _⟩ | ⟨hg2, rfl⟩⟩
      · rw [HGB.out] at hg2
        cases hg2
      · have HB2 : Hid (Below w.heap.size w w2) := (show Below _ _ _ from btr HB1.out b2 (Nat.le_refl _))
        clear b2 hg2
        go_wp2_with (go_at_call 9; refine (HAw.out _ HB2.out).mono ?_; rintro r u ⟨rfl, hb⟩; have HB : Hid (Below _ _ u) := hb; clear hb)
        go_ret
        exact ⟨rfl, HB.out⟩
  · have h4 : (100 : Int) < (l.length : Int) := by omega
    clear hl
    go_enter Try.func4, Try.ntmps4
    go_wp2_with (go_at_call 9; refine (HAw.out _ (Below.refl _ _)).mono ?_; rintro r u ⟨rfl, hb⟩; have HB : Hid (Below _ _ u) := hb; clear hb)
    go_ret
    exact ⟨rfl, HB.out⟩
end Go.Proofs.Ytcjojcaahpkacaa
