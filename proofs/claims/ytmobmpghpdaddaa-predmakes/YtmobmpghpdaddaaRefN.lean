/-
  The document's nodeRight, Right.
-/
import Derived.Test.YtmobmpghpdaddaaRefC
import Derived.Test.YtmobmpghpdaddaaRight
namespace Go.Proofs.Ytmobmpghpdaddaa
open Go.ChangeShapes Go.WideShapes Go.ChangeAt Go.RowKit
set_option linter.unusedVariables false
set_option linter.unusedSimpArgs false

theorem ahead_drop {s : List Int} {i : Nat} (h : i < s.length) (p : Int) : aheadB (s.drop i) p = (!(badB p s[i]) && aheadB (s.drop (i + 1)) p) := by
  unfold aheadB
  rw [List.drop_eq_getElem_cons h, List.any_cons]
  cases badB p s[i] <;> rfl
theorem ahead_nil (p : Int) : aheadB [] p = true := rfl
theorem z0_of (t : Tst) : z0B t = ((t.f == 0) && ((nb t.v == 0) && (nb t.m == 0))) := by
  have e1 : decide (t.f = 0) = (t.f == 0) := rfl
  have e2 : ∀ x : B64, (x == 0#64) = (nb x == 0) := fun x => by
    by_cases h : x = 0#64
    · subst h; rfl
    · have h2 : ¬ nb x = 0 := fun e => h ((nb_eq0 x).1 e)
      rw [beq_eq_false_iff_ne.2 h, beq_eq_false_iff_ne.2 h2]
  unfold z0B
  rw [e1, e2, e2, Bool.and_assoc]
set_option maxRecDepth 20000 in
set_option maxHeartbeats 4000000 in
theorem rnode_any (x : Nd) (a : Option Addr) (c : Nat) (p : Int) (w : World) (hs : Is w a x.s) (hl : x.s.length ≤ 9223372036854775807) :
    Calls Try.prog 39 #[ndV x a c, .int .i64 p] w fun e w' => e = .returned (.bool (rnB x p)) ∧ Below w.heap.size w w' := by
  obtain ⟨k, t, s⟩ := x
  obtain ⟨X, hX⟩ : ∃ X, w.alloc (.cells #[.int .i64 k, .int .i64 t.f, cv t.v, cv t.m, .slice a s.length c] 39) = X := ⟨_, rfl⟩
  have HG : Hid (Below w.heap.size w X) := (show Below _ _ _ by rw [← hX]; go_grown)
  have d0 : X.cell? ⟨w.heap.size, 0, none⟩ = some (.int .i64 k) := by rw [← hX]; simp
  have d1 : X.cell? ⟨w.heap.size, 1, none⟩ = some (.int .i64 t.f) := by rw [← hX]; simp
  have d2 : X.cell? ⟨w.heap.size, 2, none⟩ = some (cv t.v) := by rw [← hX]; simp
  have d3 : X.cell? ⟨w.heap.size, 3, none⟩ = some (cv t.m) := by rw [← hX]; simp
  have d4 : X.cell? ⟨w.heap.size, 4, none⟩ = some (.slice a s.length c) := by rw [← hX]; simp
  simp only at hs hl
  have HRX : Hid (Calls Try.prog 45 #[tV t] X fun e w' => e = .returned (.bool (trB t)) ∧ Below w.heap.size w w') := (show Calls _ _ _ _ _ from (rright_test t X).mono fun e w' ⟨h1, h2⟩ => ⟨h1, btr HG.out h2 (by omega)⟩)
  have HS : Hid (Is X a s) := hs.below HG.out
  have hz := z0_of t
  clear hs
  obtain ⟨R, hR⟩ : ∃ R, rnB ⟨k, t, s⟩ p = R := ⟨_, rfl⟩
  have HR : Hid (R = rnB ⟨k, t, s⟩ p) := hR.symm
  rw [hR]
  unfold rnB at HR
  simp only at HR
  show Calls Try.prog 39 #[.agg #[.int .i64 k, .int .i64 t.f, cv t.v, cv t.m, .slice a s.length c], .int .i64 p] w _
  obtain ⟨n, hn⟩ : ∃ n, s.length = n := ⟨_, rfl⟩
  have HN : Hid (s.length = n) := hn
  rw [hn] at d4 hX hl HR ⊢
  clear hn hR
  by_cases k1 : k = 1
  · subst k1
    by_cases h0 : n = 0
    · subst h0
      have HE0 : Hid (R = (z0B t && aheadB (s.drop 0) p)) := (show _ = _ by rw [HR.out]; simp [List.eq_nil_of_length_eq_zero (HN.out), ahead_nil])
      clear HR
      go_enter Try.func39, Try.ntmps39
      go_wp2_with fail
      clear hX
      go_loopw [7] (fun v7 wr => ∃ i : Nat, i ≤ 0 ∧ v7 = .int .i64 i ∧ Hid (R = (z0B t && aheadB (s.drop i) p)) ∧ wr = X) (fun v7 _ => 0 - (intOf v7).toNat)
      case atStart => exact ⟨0, Nat.zero_le _, rfl, HE0, rfl⟩
      case round =>
        obtain ⟨i, hi, rfl, HE, hw⟩ := hrel
        obtain rfl : X = wr := hw.symm
        clear HE0 hw
        by_cases hlt : i < 0
        · exfalso; omega
          stop
          have his : i < s.length := by have := HN.out; omega
          obtain ⟨g, o, rfl, hg, hc⟩ := HS.out.at his
          have e0 := hc i his
          have HT : Hid (R = (z0B t && (!(badB p s[i]) && aheadB (s.drop (i + 1)) p))) := (show _ = _ by rw [HE.out, ahead_drop his])
          generalize s[i] = y at *
          clear hc hg HE hz
          by_cases y0 : y < 0
          · have HF : Hid (R = false) := (show _ = _ by rw [HT.out]; simp [badB, y0])
            clear HT HRX
            go_wp2_with fail
            go_ret
            exact ⟨by rw [HF.out]; rfl, HG.out⟩
          · by_cases y1 : p ≤ y
            · have HF : Hid (R = false) := (show _ = _ by rw [HT.out]; simp [badB, y1])
              have y2 : decide (p ≤ y) = true := decide_eq_true y1
              have y3 : decide (y < 0) = false := decide_eq_false y0
              clear HT HRX
              go_wp2_with fail
              go_ret
              exact ⟨by rw [HF.out]; rfl, HG.out⟩
            · have HE2 : Hid (R = (z0B t && aheadB (s.drop (i + 1)) p)) := (show _ = _ by rw [HT.out]; simp [badB, y0, y1])
              have y2 : decide (p ≤ y) = false := decide_eq_false y1
              have y3 : decide (y < 0) = false := decide_eq_false y0
              clear HT
              go_wp2_with fail
              go_roundw
              case rel => exact ⟨i + 1, by omega, by go_num, HE2, by first | rfl | trivial⟩
              case measure => simp [intOf]; omega
        · have hE : R = z0B t := by rw [HE.out, List.drop_of_length_le (by have := HN.out; omega), ahead_nil, Bool.and_true]
          rw [hz] at hE
          clear HE hz HS HRX
          obtain ⟨b1, hb1⟩ : ∃ b, (t.f == 0) = b := ⟨_, rfl⟩
          obtain ⟨b2, hb2⟩ : ∃ b, (nb t.v == 0) = b := ⟨_, rfl⟩
          obtain ⟨b3, hb3⟩ : ∃ b, (nb t.m == 0) = b := ⟨_, rfl⟩
          rw [hb1, hb2, hb3] at hE
          have HF : Hid (R = (b1 && (b2 && b3))) := hE
          clear hE
          cases b1 <;> cases b2 <;> cases b3
          all_goals
            go_wp2_with fail
            go_ret
            exact ⟨by rw [HF.out]; rfl, HG.out⟩
    · have hE : R = false := by rw [HR.out]; simp [h0]
      have h1 : ¬ (n : Int) < 0 := by omega
      have h2 : decide ((n : Int) < 0) = false := decide_eq_false h1
      have h3 : (0 : Int) < (n : Int) := by omega
      have h4 : decide ((0 : Int) < (n : Int)) = true := decide_eq_true h3
      rw [hE]
      clear hE HR hz HS HRX
      go_enter Try.func39, Try.ntmps39
      go_wp2_with fail
      go_ret
      exact ⟨rfl, HG.out⟩
  by_cases k2 : k = 2
  · subst k2
    by_cases h0 : n = 0
    · subst h0
      have HE0 : Hid (R = (z0B t && aheadB (s.drop 0) p)) := (show _ = _ by rw [HR.out]; simp [List.eq_nil_of_length_eq_zero (HN.out), ahead_nil])
      clear HR
      go_enter Try.func39, Try.ntmps39
      go_wp2_with fail
      clear hX
      go_loopw [7] (fun v7 wr => ∃ i : Nat, i ≤ 0 ∧ v7 = .int .i64 i ∧ Hid (R = (z0B t && aheadB (s.drop i) p)) ∧ wr = X) (fun v7 _ => 0 - (intOf v7).toNat)
      case atStart => exact ⟨0, Nat.zero_le _, rfl, HE0, rfl⟩
      case round =>
        obtain ⟨i, hi, rfl, HE, hw⟩ := hrel
        obtain rfl : X = wr := hw.symm
        clear HE0 hw
        by_cases hlt : i < 0
        · exfalso; omega
          stop
          have his : i < s.length := by have := HN.out; omega
          obtain ⟨g, o, rfl, hg, hc⟩ := HS.out.at his
          have e0 := hc i his
          have HT : Hid (R = (z0B t && (!(badB p s[i]) && aheadB (s.drop (i + 1)) p))) := (show _ = _ by rw [HE.out, ahead_drop his])
          generalize s[i] = y at *
          clear hc hg HE hz
          by_cases y0 : y < 0
          · have HF : Hid (R = false) := (show _ = _ by rw [HT.out]; simp [badB, y0])
            clear HT HRX
            go_wp2_with fail
            go_ret
            exact ⟨by rw [HF.out]; rfl, HG.out⟩
          · by_cases y1 : p ≤ y
            · have HF : Hid (R = false) := (show _ = _ by rw [HT.out]; simp [badB, y1])
              have y2 : decide (p ≤ y) = true := decide_eq_true y1
              have y3 : decide (y < 0) = false := decide_eq_false y0
              clear HT HRX
              go_wp2_with fail
              go_ret
              exact ⟨by rw [HF.out]; rfl, HG.out⟩
            · have HE2 : Hid (R = (z0B t && aheadB (s.drop (i + 1)) p)) := (show _ = _ by rw [HT.out]; simp [badB, y0, y1])
              have y2 : decide (p ≤ y) = false := decide_eq_false y1
              have y3 : decide (y < 0) = false := decide_eq_false y0
              clear HT
              go_wp2_with fail
              go_roundw
              case rel => exact ⟨i + 1, by omega, by go_num, HE2, by first | rfl | trivial⟩
              case measure => simp [intOf]; omega
        · have hE : R = z0B t := by rw [HE.out, List.drop_of_length_le (by have := HN.out; omega), ahead_nil, Bool.and_true]
          rw [hz] at hE
          clear HE hz HS HRX
          obtain ⟨b1, hb1⟩ : ∃ b, (t.f == 0) = b := ⟨_, rfl⟩
          obtain ⟨b2, hb2⟩ : ∃ b, (nb t.v == 0) = b := ⟨_, rfl⟩
          obtain ⟨b3, hb3⟩ : ∃ b, (nb t.m == 0) = b := ⟨_, rfl⟩
          rw [hb1, hb2, hb3] at hE
          have HF : Hid (R = (b1 && (b2 && b3))) := hE
          clear hE
          cases b1 <;> cases b2 <;> cases b3
          all_goals
            go_wp2_with fail
            go_ret
            exact ⟨by rw [HF.out]; rfl, HG.out⟩
    · have hE : R = false := by rw [HR.out]; simp [h0]
      have h1 : ¬ (n : Int) < 0 := by omega
      have h2 : decide ((n : Int) < 0) = false := decide_eq_false h1
      have h3 : (0 : Int) < (n : Int) := by omega
      have h4 : decide ((0 : Int) < (n : Int)) = true := decide_eq_true h3
      rw [hE]
      clear hE HR hz HS HRX
      go_enter Try.func39, Try.ntmps39
      go_wp2_with fail
      go_ret
      exact ⟨rfl, HG.out⟩
  by_cases k3 : k = 3
  · subst k3
    by_cases h0 : n = 0
    · subst h0
      have HE0 : Hid (R = (trB t && aheadB (s.drop 0) p)) := (show _ = _ by rw [HR.out]; simp [List.eq_nil_of_length_eq_zero (HN.out), ahead_nil])
      clear HR
      go_enter Try.func39, Try.ntmps39
      go_wp2_with fail
      clear hX
      go_loopw [7] (fun v7 wr => ∃ i : Nat, i ≤ 0 ∧ v7 = .int .i64 i ∧ Hid (R = (trB t && aheadB (s.drop i) p)) ∧ wr = X) (fun v7 _ => 0 - (intOf v7).toNat)
      case atStart => exact ⟨0, Nat.zero_le _, rfl, HE0, rfl⟩
      case round =>
        obtain ⟨i, hi, rfl, HE, hw⟩ := hrel
        obtain rfl : X = wr := hw.symm
        clear HE0 hw
        by_cases hlt : i < 0
        · exfalso; omega
          stop
          have his : i < s.length := by have := HN.out; omega
          obtain ⟨g, o, rfl, hg, hc⟩ := HS.out.at his
          have e0 := hc i his
          have HT : Hid (R = (trB t && (!(badB p s[i]) && aheadB (s.drop (i + 1)) p))) := (show _ = _ by rw [HE.out, ahead_drop his])
          generalize s[i] = y at *
          clear hc hg HE hz
          by_cases y0 : y < 0
          · have HF : Hid (R = false) := (show _ = _ by rw [HT.out]; simp [badB, y0])
            clear HT HRX
            go_wp2_with fail
            go_ret
            exact ⟨by rw [HF.out]; rfl, HG.out⟩
          · by_cases y1 : p ≤ y
            · have HF : Hid (R = false) := (show _ = _ by rw [HT.out]; simp [badB, y1])
              have y2 : decide (p ≤ y) = true := decide_eq_true y1
              have y3 : decide (y < 0) = false := decide_eq_false y0
              clear HT HRX
              go_wp2_with fail
              go_ret
              exact ⟨by rw [HF.out]; rfl, HG.out⟩
            · have HE2 : Hid (R = (trB t && aheadB (s.drop (i + 1)) p)) := (show _ = _ by rw [HT.out]; simp [badB, y0, y1])
              have y2 : decide (p ≤ y) = false := decide_eq_false y1
              have y3 : decide (y < 0) = false := decide_eq_false y0
              clear HT
              go_wp2_with fail
              go_roundw
              case rel => exact ⟨i + 1, by omega, by go_num, HE2, by first | rfl | trivial⟩
              case measure => simp [intOf]; omega
        · have hE : R = trB t := by rw [HE.out, List.drop_of_length_le (by have := HN.out; omega), ahead_nil, Bool.and_true]
          have HF : Hid (R = trB t) := hE
          clear hE HE hz HS
          have HRX2 : Hid (Calls Try.prog 45 #[tV t] X fun e w' => e = .returned (.bool (trB t)) ∧ Below w.heap.size w w') := HRX
          go_wp2_with (go_at_call 45; refine HRX2.out.mono ?_; rintro e w2 ⟨rfl, h1⟩; have HB2 : Hid (Below w.heap.size w w2) := h1; clear h1)
          go_ret
          exact ⟨by rw [HF.out]; rfl, HB2.out⟩
    · have hE : R = false := by rw [HR.out]; simp [h0]
      have h1 : ¬ (n : Int) < 0 := by omega
      have h2 : decide ((n : Int) < 0) = false := decide_eq_false h1
      have h3 : (0 : Int) < (n : Int) := by omega
      have h4 : decide ((0 : Int) < (n : Int)) = true := decide_eq_true h3
      rw [hE]
      clear hE HR hz HS HRX
      go_enter Try.func39, Try.ntmps39
      go_wp2_with fail
      go_ret
      exact ⟨rfl, HG.out⟩
  by_cases k4 : k = 4
  · subst k4
    by_cases h0 : n ≤ 12
    · have h1 : ¬ (n : Int) < 0 := by omega
      have h2 : decide ((n : Int) < 0) = false := decide_eq_false h1
      have h3 : ¬ (12 : Int) < (n : Int) := by omega
      have h4 : decide ((12 : Int) < (n : Int)) = false := decide_eq_false h3
      have HE0 : Hid (R = (z0B t && aheadB (s.drop 0) p)) := (show _ = _ by rw [HR.out]; simp [h0])
      clear HR
      go_enter Try.func39, Try.ntmps39
      go_wp2_with fail
      clear hX
      go_loopw [7] (fun v7 wr => ∃ i : Nat, i ≤ n ∧ v7 = .int .i64 i ∧ Hid (R = (z0B t && aheadB (s.drop i) p)) ∧ wr = X) (fun v7 _ => n - (intOf v7).toNat)
      case atStart => exact ⟨0, Nat.zero_le _, rfl, HE0, rfl⟩
      case round =>
        obtain ⟨i, hi, rfl, HE, hw⟩ := hrel
        obtain rfl : X = wr := hw.symm
        clear HE0 hw
        by_cases hlt : i < n
        · skip
          skip
          have his : i < s.length := by have := HN.out; omega
          obtain ⟨g, o, rfl, hg, hc⟩ := HS.out.at his
          have e0 := hc i his
          have HT : Hid (R = (z0B t && (!(badB p s[i]) && aheadB (s.drop (i + 1)) p))) := (show _ = _ by rw [HE.out, ahead_drop his])
          generalize s[i] = y at *
          clear hc hg HE hz
          by_cases y0 : y < 0
          · have HF : Hid (R = false) := (show _ = _ by rw [HT.out]; simp [badB, y0])
            clear HT HRX
            go_wp2_with fail
            go_ret
            exact ⟨by rw [HF.out]; rfl, HG.out⟩
          · by_cases y1 : p ≤ y
            · have HF : Hid (R = false) := (show _ = _ by rw [HT.out]; simp [badB, y1])
              have y2 : decide (p ≤ y) = true := decide_eq_true y1
              have y3 : decide (y < 0) = false := decide_eq_false y0
              clear HT HRX
              go_wp2_with fail
              go_ret
              exact ⟨by rw [HF.out]; rfl, HG.out⟩
            · have HE2 : Hid (R = (z0B t && aheadB (s.drop (i + 1)) p)) := (show _ = _ by rw [HT.out]; simp [badB, y0, y1])
              have y2 : decide (p ≤ y) = false := decide_eq_false y1
              have y3 : decide (y < 0) = false := decide_eq_false y0
              clear HT
              go_wp2_with fail
              go_roundw
              case rel => exact ⟨i + 1, by omega, by go_num, HE2, by first | rfl | trivial⟩
              case measure => simp [intOf]; omega
        · have hE : R = z0B t := by rw [HE.out, List.drop_of_length_le (by have := HN.out; omega), ahead_nil, Bool.and_true]
          rw [hz] at hE
          clear HE hz HS HRX
          obtain ⟨b1, hb1⟩ : ∃ b, (t.f == 0) = b := ⟨_, rfl⟩
          obtain ⟨b2, hb2⟩ : ∃ b, (nb t.v == 0) = b := ⟨_, rfl⟩
          obtain ⟨b3, hb3⟩ : ∃ b, (nb t.m == 0) = b := ⟨_, rfl⟩
          rw [hb1, hb2, hb3] at hE
          have HF : Hid (R = (b1 && (b2 && b3))) := hE
          clear hE
          cases b1 <;> cases b2 <;> cases b3
          all_goals
            go_wp2_with fail
            go_ret
            exact ⟨by rw [HF.out]; rfl, HG.out⟩
    · have hE : R = false := by rw [HR.out]; simp [h0]
      have h1 : ¬ (n : Int) < 0 := by omega
      have h2 : decide ((n : Int) < 0) = false := decide_eq_false h1
      have h3 : (12 : Int) < (n : Int) := by omega
      have h4 : decide ((12 : Int) < (n : Int)) = true := decide_eq_true h3
      rw [hE]
      clear hE HR hz HS HRX
      go_enter Try.func39, Try.ntmps39
      go_wp2_with fail
      go_ret
      exact ⟨rfl, HG.out⟩
  by_cases k5 : k = 5
  · subst k5
    by_cases h0 : n ≤ 12
    · have h1 : ¬ (n : Int) < 0 := by omega
      have h2 : decide ((n : Int) < 0) = false := decide_eq_false h1
      have h3 : ¬ (12 : Int) < (n : Int) := by omega
      have h4 : decide ((12 : Int) < (n : Int)) = false := decide_eq_false h3
      have HE0 : Hid (R = (z0B t && aheadB (s.drop 0) p)) := (show _ = _ by rw [HR.out]; simp [h0])
      clear HR
      go_enter Try.func39, Try.ntmps39
      go_wp2_with fail
      clear hX
      go_loopw [7] (fun v7 wr => ∃ i : Nat, i ≤ n ∧ v7 = .int .i64 i ∧ Hid (R = (z0B t && aheadB (s.drop i) p)) ∧ wr = X) (fun v7 _ => n - (intOf v7).toNat)
      case atStart => exact ⟨0, Nat.zero_le _, rfl, HE0, rfl⟩
      case round =>
        obtain ⟨i, hi, rfl, HE, hw⟩ := hrel
        obtain rfl : X = wr := hw.symm
        clear HE0 hw
        by_cases hlt : i < n
        · skip
          skip
          have his : i < s.length := by have := HN.out; omega
          obtain ⟨g, o, rfl, hg, hc⟩ := HS.out.at his
          have e0 := hc i his
          have HT : Hid (R = (z0B t && (!(badB p s[i]) && aheadB (s.drop (i + 1)) p))) := (show _ = _ by rw [HE.out, ahead_drop his])
          generalize s[i] = y at *
          clear hc hg HE hz
          by_cases y0 : y < 0
          · have HF : Hid (R = false) := (show _ = _ by rw [HT.out]; simp [badB, y0])
            clear HT HRX
            go_wp2_with fail
            go_ret
            exact ⟨by rw [HF.out]; rfl, HG.out⟩
          · by_cases y1 : p ≤ y
            · have HF : Hid (R = false) := (show _ = _ by rw [HT.out]; simp [badB, y1])
              have y2 : decide (p ≤ y) = true := decide_eq_true y1
              have y3 : decide (y < 0) = false := decide_eq_false y0
              clear HT HRX
              go_wp2_with fail
              go_ret
              exact ⟨by rw [HF.out]; rfl, HG.out⟩
            · have HE2 : Hid (R = (z0B t && aheadB (s.drop (i + 1)) p)) := (show _ = _ by rw [HT.out]; simp [badB, y0, y1])
              have y2 : decide (p ≤ y) = false := decide_eq_false y1
              have y3 : decide (y < 0) = false := decide_eq_false y0
              clear HT
              go_wp2_with fail
              go_roundw
              case rel => exact ⟨i + 1, by omega, by go_num, HE2, by first | rfl | trivial⟩
              case measure => simp [intOf]; omega
        · have hE : R = z0B t := by rw [HE.out, List.drop_of_length_le (by have := HN.out; omega), ahead_nil, Bool.and_true]
          rw [hz] at hE
          clear HE hz HS HRX
          obtain ⟨b1, hb1⟩ : ∃ b, (t.f == 0) = b := ⟨_, rfl⟩
          obtain ⟨b2, hb2⟩ : ∃ b, (nb t.v == 0) = b := ⟨_, rfl⟩
          obtain ⟨b3, hb3⟩ : ∃ b, (nb t.m == 0) = b := ⟨_, rfl⟩
          rw [hb1, hb2, hb3] at hE
          have HF : Hid (R = (b1 && (b2 && b3))) := hE
          clear hE
          cases b1 <;> cases b2 <;> cases b3
          all_goals
            go_wp2_with fail
            go_ret
            exact ⟨by rw [HF.out]; rfl, HG.out⟩
    · have hE : R = false := by rw [HR.out]; simp [h0]
      have h1 : ¬ (n : Int) < 0 := by omega
      have h2 : decide ((n : Int) < 0) = false := decide_eq_false h1
      have h3 : (12 : Int) < (n : Int) := by omega
      have h4 : decide ((12 : Int) < (n : Int)) = true := decide_eq_true h3
      rw [hE]
      clear hE HR hz HS HRX
      go_enter Try.func39, Try.ntmps39
      go_wp2_with fail
      go_ret
      exact ⟨rfl, HG.out⟩
  by_cases k6 : k = 6
  · subst k6
    by_cases h0 : n = 1
    · subst h0
      have HE0 : Hid (R = (z0B t && aheadB (s.drop 0) p)) := (show _ = _ by rw [HR.out]; simp)
      clear HR
      go_enter Try.func39, Try.ntmps39
      go_wp2_with fail
      clear hX
      go_loopw [7] (fun v7 wr => ∃ i : Nat, i ≤ 1 ∧ v7 = .int .i64 i ∧ Hid (R = (z0B t && aheadB (s.drop i) p)) ∧ wr = X) (fun v7 _ => 1 - (intOf v7).toNat)
      case atStart => exact ⟨0, Nat.zero_le _, rfl, HE0, rfl⟩
      case round =>
        obtain ⟨i, hi, rfl, HE, hw⟩ := hrel
        obtain rfl : X = wr := hw.symm
        clear HE0 hw
        by_cases hlt : i < 1
        · skip
          skip
          have his : i < s.length := by have := HN.out; omega
          obtain ⟨g, o, rfl, hg, hc⟩ := HS.out.at his
          have e0 := hc i his
          have HT : Hid (R = (z0B t && (!(badB p s[i]) && aheadB (s.drop (i + 1)) p))) := (show _ = _ by rw [HE.out, ahead_drop his])
          generalize s[i] = y at *
          clear hc hg HE hz
          by_cases y0 : y < 0
          · have HF : Hid (R = false) := (show _ = _ by rw [HT.out]; simp [badB, y0])
            clear HT HRX
            go_wp2_with fail
            go_ret
            exact ⟨by rw [HF.out]; rfl, HG.out⟩
          · by_cases y1 : p ≤ y
            · have HF : Hid (R = false) := (show _ = _ by rw [HT.out]; simp [badB, y1])
              have y2 : decide (p ≤ y) = true := decide_eq_true y1
              have y3 : decide (y < 0) = false := decide_eq_false y0
              clear HT HRX
              go_wp2_with fail
              go_ret
              exact ⟨by rw [HF.out]; rfl, HG.out⟩
            · have HE2 : Hid (R = (z0B t && aheadB (s.drop (i + 1)) p)) := (show _ = _ by rw [HT.out]; simp [badB, y0, y1])
              have y2 : decide (p ≤ y) = false := decide_eq_false y1
              have y3 : decide (y < 0) = false := decide_eq_false y0
              clear HT
              go_wp2_with fail
              go_roundw
              case rel => exact ⟨i + 1, by omega, by go_num, HE2, by first | rfl | trivial⟩
              case measure => simp [intOf]; omega
        · have hE : R = z0B t := by rw [HE.out, List.drop_of_length_le (by have := HN.out; omega), ahead_nil, Bool.and_true]
          rw [hz] at hE
          clear HE hz HS HRX
          obtain ⟨b1, hb1⟩ : ∃ b, (t.f == 0) = b := ⟨_, rfl⟩
          obtain ⟨b2, hb2⟩ : ∃ b, (nb t.v == 0) = b := ⟨_, rfl⟩
          obtain ⟨b3, hb3⟩ : ∃ b, (nb t.m == 0) = b := ⟨_, rfl⟩
          rw [hb1, hb2, hb3] at hE
          have HF : Hid (R = (b1 && (b2 && b3))) := hE
          clear hE
          cases b1 <;> cases b2 <;> cases b3
          all_goals
            go_wp2_with fail
            go_ret
            exact ⟨by rw [HF.out]; rfl, HG.out⟩
    · have hE : R = false := by rw [HR.out]; simp [h0]
      rw [hE]
      clear hE HR hz HS HRX
      by_cases h1 : n = 0
      · subst h1
        go_enter Try.func39, Try.ntmps39
        go_wp2_with fail
        go_ret
        exact ⟨rfl, HG.out⟩
      · have h2 : ¬ (n : Int) < 1 := by omega
        have h3 : decide ((n : Int) < 1) = false := decide_eq_false h2
        have h4 : (1 : Int) < (n : Int) := by omega
        have h5 : decide ((1 : Int) < (n : Int)) = true := decide_eq_true h4
        go_enter Try.func39, Try.ntmps39
        go_wp2_with fail
        go_ret
        exact ⟨rfl, HG.out⟩
  have hE : R = false := by rw [HR.out]; simp [k1, k2, k3, k4, k5, k6]
  rw [hE]
  have q4 : (k == 4) = false := beq_eq_false_iff_ne.2 k4
  have q5 : (k == 5) = false := beq_eq_false_iff_ne.2 k5
  have q6 : (k == 6) = false := beq_eq_false_iff_ne.2 k6
  clear hE HR hz HS HRX
  by_cases j1 : k < 1
  · have j2 : decide (k < 1) = true := decide_eq_true j1
    go_enter Try.func39, Try.ntmps39
    go_wp2_with fail
    go_ret
    exact ⟨rfl, HG.out⟩
  · have j2 : decide (k < 1) = false := decide_eq_false j1
    have j3 : (6 : Int) < k := by omega
    have j4 : decide ((6 : Int) < k) = true := decide_eq_true j3
    go_enter Try.func39, Try.ntmps39
    go_wp2_with fail
    go_ret
    exact ⟨rfl, HG.out⟩
end Go.Proofs.Ytmobmpghpdaddaa
