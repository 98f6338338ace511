/-
  CostFolds: a row's sum goes on by one; what is no cost spoils it; the law's function, walked.
-/
import Derived.Test.YtfkkciepbmijaabFoldP
import Derived.Test.YtfkkciepbmijaabAwake
namespace Go.Proofs.Ytfkkciepbmijaab
open Go.ChangeShapes Go.WideShapes Go.ChangeAt Go.RowKit
set_option linter.unusedVariables false

theorem awake_in2 (w : World) : ∀ u, Below w.heap.size w u → Calls Try.prog 9 #[] u fun e w' => e = .returned (.bool true) ∧ Below w.heap.size w w' := fun u k => (awake_any u).mono fun e w' ⟨h1, h2⟩ => ⟨h1, btr k h2 (Nat.le_refl _)⟩
set_option maxRecDepth 20000 in
set_option maxHeartbeats 8000000 in
theorem folds_nat (a : Option Addr) (l : List Nat) (cap : Nat) (y : Nat) (w : World) (hs : Us w a l) (hw : W64 l) (hl : l.length < 17592186044416) (hy : y < 2 ^ 64) : Calls Try.prog 4 #[.slice a l.length cap, .int .u64 (y : Int)] w fun e w' => e = .returned (.bool true) ∧ Below w.heap.size w w' := by
  have HAw : Hid (∀ u, Below w.heap.size w u → Calls Try.prog 9 #[] u fun e w' => e = .returned (.bool true) ∧ Below w.heap.size w w') := awake_in2 w
  have HF : Hid (Calls Try.prog 5 #[.slice a l.length cap] w fun e w' => ∃ a' c', e = .returned (.slice a' l.length c') ∧ Fs w' a' l ∧ RwI 27 (Value.float .f64) w (.slice a' l.length c') l w') := (show Calls _ _ _ _ _ from (floats_any a l cap w hs hl).mono fun e w' ⟨v, h1, h2, h3⟩ => by
    obtain ⟨a', c', rfl, h4⟩ := own_sl h2
    exact ⟨a', c', h1, h4, h2, h3⟩)
  obtain ⟨L2, hL2⟩ : ∃ L2, l ++ [y] = L2 := ⟨_, rfl⟩
  have HL2 : Hid (l ++ [y] = L2) := hL2
  have hw2 : W64 L2 := fun x hx => by
    rw [← hL2] at hx
    rcases List.mem_append.1 hx with h | h
    · exact hw x h
    · rw [List.mem_singleton.1 h]; exact hy
  have hl2 : L2.length ≤ 4611686018427387904 := by rw [← hL2, List.length_append]; simp; omega
  obtain ⟨s, hss⟩ : ∃ s, sumL l = s := ⟨_, rfl⟩
  obtain ⟨t, htt⟩ : ∃ t, sumL L2 = t := ⟨_, rfl⟩
  have ht : addB s y = t := by rw [← htt, ← hL2, sumL_snoc, hss]
  have HS1 : Hid (∀ a' c' u, Fs u a' l → Calls Try.prog 11 #[.slice a' l.length c'] u fun e w' => e = .returned (.float .f64 s) ∧ w' = u) := (show ∀ a' c' u, _ from fun a' c' u h => by rw [← hss]; exact sum_any a' l c' u h hw (by omega))
  have HS2 : Hid (∀ a' c' u, Fs u a' L2 → Calls Try.prog 11 #[.slice a' L2.length c'] u fun e w' => e = .returned (.float .f64 t) ∧ w' = u) := (show ∀ a' c' u, _ from fun a' c' u h => by rw [← htt]; exact sum_any a' L2 c' u h hw2 hl2)
  have HS0 : Hid (∀ u, Calls Try.prog 11 #[.slice none 0 0] u fun e w' => e = .returned (.float .f64 0) ∧ w' = u) := (show ∀ u, _ from fun u => sum_any none [] 0 u (.inl rfl) (fun x h => by cases h) (by decide))
  have hsl : s < 2 ^ 64 := by rw [← hss]; exact sumL_lt l
  have htl : t < 2 ^ 64 := by rw [← htt]; exact sumL_lt L2
  have HAd : Hid (∀ u, Calls Try.prog 13 #[.float .f64 s, .float .f64 y] u fun e w' => e = .returned (.float .f64 t) ∧ w' = u) := (show ∀ u, _ from fun u => by rw [← ht]; exact add_any s y hsl hy u)
  have HR : Hid (∀ x u, x < 2 ^ 64 → Calls Try.prog 14 #[.float .f64 x] u fun e w' => e = .returned (.bool (rightB x)) ∧ w' = u) := (show ∀ x u, _ from fun x u h => right_any x h u)
  have HRy : Hid (∀ u, Calls Try.prog 14 #[.float .f64 y] u fun e w' => e = .returned (.bool (rightB y)) ∧ w' = u) := (show ∀ u, _ from fun u => right_any y hy u)
  have HIn : Hid (∀ u, Calls Try.prog 15 #[.float .f64 t, .int .i64 1] u fun e w' => e = .returned (.bool (t == infR)) ∧ w' = u) := (show ∀ u, _ from fun u => isinf_any t htl u)
  have HInf : Hid ((wrongB l || !rightB y) = true → (t == infR) = true) := (show _ → _ from fun h => by
    rw [← wrongB_snoc, hL2] at h
    rw [← htt]
    exact beq_iff_eq.2 (sum_wrong _ L2 rfl h))
  have HUs : Hid (Us w a l) := hs
  have HW : Hid (W64 l) := hw
  have HLen : Hid (l.length < 17592186044416) := hl
  have hf := fun (n : Nat) w => from_run n w
  have hg := fun (n : Nat) w => bits_run n w
  clear hs hw hy hw2 hl2 hss htt ht hsl htl hL2
  generalize (t == infR) = ti at *
  obtain ⟨ry, hry⟩ : ∃ r, rightB y = r := ⟨_, rfl⟩
  rw [hry] at HRy HInf
  have HW0 : Hid ((wrongB (l.take 0) || !ry) = !ry) := (show _ = _ from by simp [wrongB])
  clear hry
  go_enter Try.func4, Try.ntmps4
  go_wp2_with (first
    | (go_at_call 5; refine HF.out.mono ?_; rintro r u ⟨a', c', rfl, k1, k2⟩; have K1 : Hid (Fs u a' l) := k1; have K2 : Hid (RwI 27 (Value.float .f64) w (.slice a' l.length c') l u) := k2; clear k1 k2)
    | (at_builtin; refine wpList_appF rfl _ _ rfl w.heap.size _ l rfl (own_below K2.out.own (by go_grown)) _ y rfl (by simp) HLen.out (by have := K2.out.bel.size; simp; omega) ?_; intro v' w2 ho2 hg2; rw [HL2.out] at ho2; obtain ⟨a2, c2, rfl, hs2⟩ := own_sl ho2; have K3 : Hid (Fs w2 a2 L2) := hs2; have K4 : Hid (Below w.heap.size w w2) := (show Below _ _ _ from (K2.out.app (by go_grown) ho2 hg2).bel); clear ho2 hg2 hs2)
    | (go_at_call_of 11 (Value.slice a' l.length c'); refine (HS1.out _ _ _ K1.out).mono ?_; rintro r u2 ⟨rfl, z⟩; obtain rfl : u = u2 := z.symm; clear z)
    | (go_at_call_of 11 (Value.slice a2 L2.length c2); refine (HS2.out _ _ _ K3.out).mono ?_; rintro r u2 ⟨rfl, z⟩; obtain rfl : w2 = u2 := z.symm; clear z)
    | (go_at_call 13; refine (HAd.out _).mono ?_; rintro r u2 ⟨rfl, z⟩; obtain rfl : w2 = u2 := z.symm; clear z)
    | (go_at_call 14; refine (HRy.out _).mono ?_; rintro r u2 ⟨rfl, z⟩; obtain rfl : w2 = u2 := z.symm; clear z))
  have HW0' := HW0
  clear HW0
  go_loopw [9, 10] (fun v9 v10 wr => ∃ (k : Nat) (b : Bool), k ≤ l.length ∧ v10 = .int .i64 k ∧ v9 = .bool b ∧ Hid ((wrongB (l.take k) || !ry) = b) ∧ wr = w2) (fun _ v10 _ => l.length - (intOf v10).toNat)
  case atStart => exact ⟨0, !ry, Nat.zero_le _, rfl, rfl, HW0', rfl⟩
  case round =>
    obtain ⟨k, b, hk, rfl, rfl, HK, HB⟩ := hrel
    obtain rfl : wr = w2 := HB
    by_cases hlt : k < l.length
    · obtain ⟨g, o, rfl, hgg, hc⟩ := (HUs.out.below K4.out).at hlt
      have d0 := hc k hlt
      have hx := HW.out.at hlt
      have hn : (wrongB (l.take (k + 1)) || !ry) = (b || !rightB l[k]) := by
        rw [List.take_succ_eq_append_getElem hlt, wrongB_snoc, ← HK.out]
        cases wrongB (l.take k) <;> cases ry <;> cases rightB l[k] <;> rfl
      generalize l[k] = x at *
      have HRx : Hid (∀ u, Calls Try.prog 14 #[.float .f64 x] u fun e w' => e = .returned (.bool (rightB x)) ∧ w' = u) := (show ∀ u, _ from fun u => HR.out x u hx)
      generalize rightB x = rx at *
      clear hc hx HK
      have HN : Hid ((wrongB (l.take (k + 1)) || !ry) = (b || !rx)) := hn
      clear hn
      cases b <;> cases rx <;>
      · go_wp2_with (go_at_call 14; refine (HRx.out _).mono ?_; rintro r u2 ⟨rfl, z⟩; obtain rfl : wr = u2 := z.symm; clear z)
        go_roundw
        case rel => exact ⟨k + 1, _, by omega, by go_num, rfl, HN, by first | rfl | trivial⟩
        case measure => simp [intOf]; omega
    · have HE : Hid ((wrongB l || !ry) = b) := (show _ = _ by
        have := HK.out
        rwa [List.take_of_length_le (by omega)] at this)
      clear HK
      rw [HE.out] at HInf
      cases b
      · clear HInf
        go_wp2_with (first
          | (go_at_call 11; refine (HS0.out _).mono ?_; rintro r u2 ⟨rfl, z⟩; obtain rfl : wr = u2 := z.symm; clear z)
          | (go_at_call 9; refine (HAw.out _ K4.out).mono ?_; rintro r u2 ⟨rfl, hb⟩; have HB2 : Hid (Below w.heap.size w u2) := hb; clear hb))
        go_ret
        exact ⟨rfl, HB2.out⟩
      · have hti := HInf.out rfl
        subst hti
        clear HInf
        go_wp2_with (first
          | (go_at_call 15; refine (HIn.out _).mono ?_; rintro r u2 ⟨rfl, z⟩; obtain rfl : wr = u2 := z.symm; clear z)
          | (go_at_call 11; refine (HS0.out _).mono ?_; rintro r u2 ⟨rfl, z⟩; obtain rfl : wr = u2 := z.symm; clear z)
          | (go_at_call 9; refine (HAw.out _ K4.out).mono ?_; rintro r u2 ⟨rfl, hb⟩; have HB2 : Hid (Below w.heap.size w u2) := hb; clear hb))
        go_ret
        exact ⟨rfl, HB2.out⟩
theorem folds_walk (a : Option Addr) (l : List Nat) (cap : Nat) (y : Int) (w : World) (hs : Us w a l) (hw : W64 l) (hl : l.length < 17592186044416) (hy : 0 ≤ y ∧ y < 18446744073709551616) : Calls Try.prog 4 #[.slice a l.length cap, .int .u64 y] w fun e w' => e = .returned (.bool true) ∧ Below w.heap.size w w' := by
  obtain ⟨n, rfl⟩ : ∃ n : Nat, y = (n : Int) := ⟨y.toNat, by omega⟩
  exact folds_nat a l cap n w hs hw hl (by omega)
end Go.Proofs.Ytfkkciepbmijaab
