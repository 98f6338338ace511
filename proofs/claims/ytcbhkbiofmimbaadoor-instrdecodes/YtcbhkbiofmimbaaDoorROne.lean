/-
  The document's Num and one: what they answer, as contracts.
-/
import Derived.Test.YtcbhkbiofmimbaaDoorROneP
import Derived.Test.YtcbhkbiofmimbaaDoorRefR
import Derived.Test.YtcbhkbiofmimbaaDoorFirst
namespace Go.Proofs.YtcbhkbiofmimbaaDoor
open Go.ChangeShapes Go.WideShapes Go.ChangeAt Go.RowKit
set_option linter.unusedSimpArgs false

set_option maxHeartbeats 400000 in
theorem rnum_any (s : ByteArray) (w : World) (hs : s.size ≤ 100000) :
    Calls Tryd.prog 25 #[.string s] w fun x w' => x = .returned (.int .u64 (numOf s.data.toList)) ∧ w' = w := by
  go_enter Tryd.func25, Tryd.ntmps25
  go_wp2
  go_loop [3, 4] (fun n i => ∃ k : Nat, k ≤ s.size ∧ i = .int .i64 k ∧ n = .int .u64 (numOf (s.data.toList.take k))) (fun _ i => s.size - (intOf i).toNat)
  case atStart => exact ⟨0, Nat.zero_le _, rfl, rfl⟩
  case round =>
    obtain ⟨k, hk, rfl, rfl⟩ := hrel
    by_cases hlt : k < s.size
    · have HS : Hid (numOf (s.data.toList.take (k + 1)) = stepN (numOf (s.data.toList.take k)) s[k]) := numOf_take s k hlt
      go_wp2
      go_round
      case rel => exact ⟨k + 1, by omega, by go_num, by rw [HS.out]; rfl⟩
      case measure => simp [intOf]; omega
    · go_wp2
      go_ret
      exact ⟨ret_int (by rw [List.take_of_length_le (by simp; omega)]), rfl⟩
theorem rnm_any (s : ByteArray) (i j : Nat) (w : World) (h : j ≤ i + 8) : Calls Tryd.prog 25 #[.string (s.extract i j)] w fun x w' => x = .returned (.int .u64 (nm s i j)) ∧ w' = w :=
  rnum_any _ w (by rw [ByteArray.size_extract]; omega)
theorem idx_s (s : ByteArray) (i : Nat) (h : i < s.size) (w : World) : (Instr.index 9 (.string s) (.int .i64 (i : Int))).run Tryd.prog w = .ok (.int .u8 (byteAt s i)) w := by
  have hu : Tryd.prog.underlying 9 = some .string := Tryd.underlying9
  have e : byteAt s i = ((s[i]).toNat : Int) := by
    unfold byteAt
    have hi : i < s.data.toList.length := by rw [len_size]; exact h
    rw [List.getD_eq_getElem?_getD, List.getElem?_eq_getElem hi]
    rfl
  rw [e]
  have h1 : (i : Int) < (s.size : Int) := by omega
  simp [Instr.index, run_underlying hu, asIntOf, go_sem, h1, h]
theorem one_0 {s : ByteArray} (h : nm s 0 2 = 0) : oneV s = (1, 0, nm s 4 8) := by unfold oneV; rw [if_pos h]
theorem one_22 {s : ByteArray} (h : nm s 0 2 = 22) : oneV s = (2, 0, nm s 4 8) := by unfold oneV; rw [h]; rfl
theorem one_17 {s : ByteArray} (h : nm s 0 2 = 17) : oneV s = (3, 0, 0) := by unfold oneV; rw [h]; rfl
theorem one_18 {s : ByteArray} (h : nm s 0 2 = 18) : oneV s = (4, 0, 0) := by unfold oneV; rw [h]; rfl
theorem one_25 {s : ByteArray} (h : nm s 0 2 = 25) : oneV s = if oneF s = 0 then (0, 0, 0) else (5, oneF s, nm s 8 (8 + rszV (oneF s))) := by unfold oneV; rw [h]; rfl
set_option maxRecDepth 20000 in
set_option maxHeartbeats 8000000 in
theorem one_any (s : ByteArray) (w : World) (h8 : 8 ≤ s.size) (_ : s.size ≤ maxLen) :
    Calls Tryd.prog 53 #[.string s] w fun e w' => e = .returned (tV (oneV s)) ∧ Below w.heap.size w w' := by
  have H2 : Hid (∀ w, Calls Tryd.prog 25 #[.string (s.extract 0 2)] w fun x w' => x = .returned (.int .u64 (nm s 0 2)) ∧ w' = w) := (show ∀ w, _ from fun w => rnm_any s 0 2 w (by omega))
  have H8 : Hid (∀ w, Calls Tryd.prog 25 #[.string (s.extract 4 8)] w fun x w' => x = .returned (.int .u64 (nm s 4 8)) ∧ w' = w) := (show ∀ w, _ from fun w => rnm_any s 4 8 w (by omega))
  by_cases k0 : nm s 0 2 = 0
  · rw [one_0 k0]
    rw [k0] at H2
    clear k0
    generalize nm s 4 8 = v at *
    go_enter Tryd.func53, Tryd.ntmps53
    go_wp2_with fail
    refine (H2.out _).mono ?_
    rintro x w1 ⟨rfl, rfl⟩
    go_wp2_with fail
    refine (H8.out _).mono ?_
    rintro x w1 ⟨rfl, rfl⟩
    go_wp2_with fail
    refine bodyPost_ret (resT (b := w.heap.size) (t := (1, 0, v)) rfl rfl (C3.new w (1, 0, v))) rfl ?_
    exact ⟨rfl, by go_grown⟩
  by_cases k1 : nm s 0 2 = 22
  · rw [one_22 k1]
    rw [k1] at H2
    clear k0 k1
    generalize nm s 4 8 = v at *
    go_enter Tryd.func53, Tryd.ntmps53
    go_wp2_with fail
    refine (H2.out _).mono ?_
    rintro x w1 ⟨rfl, rfl⟩
    go_wp2_with fail
    refine (H8.out _).mono ?_
    rintro x w1 ⟨rfl, rfl⟩
    go_wp2_with fail
    refine bodyPost_ret (resT (b := w.heap.size) (t := (2, 0, v)) rfl rfl (C3.new w (2, 0, v))) rfl ?_
    exact ⟨rfl, by go_grown⟩
  by_cases k2 : nm s 0 2 = 17
  · rw [one_17 k2]
    rw [k2] at H2
    clear k0 k1 k2 H8
    go_enter Tryd.func53, Tryd.ntmps53
    go_wp2_with fail
    refine (H2.out _).mono ?_
    rintro x w1 ⟨rfl, rfl⟩
    go_wp2_with fail
    refine bodyPost_ret (resT (b := w.heap.size) (t := (3, 0, 0)) rfl rfl (C3.new w (3, 0, 0))) rfl ?_
    exact ⟨rfl, by go_grown⟩
  by_cases k3 : nm s 0 2 = 18
  · rw [one_18 k3]
    rw [k3] at H2
    clear k0 k1 k2 k3 H8
    go_enter Tryd.func53, Tryd.ntmps53
    go_wp2_with fail
    refine (H2.out _).mono ?_
    rintro x w1 ⟨rfl, rfl⟩
    go_wp2_with fail
    refine bodyPost_ret (resT (b := w.heap.size) (t := (4, 0, 0)) rfl rfl (C3.new w (4, 0, 0))) rfl ?_
    exact ⟨rfl, by go_grown⟩
  by_cases k4 : nm s 0 2 = 25
  · rw [one_25 k4]
    rw [k4] at H2
    have HC : Hid (∀ k w, Calls Tryd.prog 45 #[.int .i64 k] w fun e w' => e = .returned (.int .i64 (codeV k)) ∧ Below w.heap.size w w') := (show ∀ k w, _ from fun k w => (rcode_any k w).mono fun _ _ ⟨a, b⟩ => ⟨a, b ▸ Below.refl _ _⟩)
    have HS : Hid (∀ k w, Calls Tryd.prog 46 #[.int .i64 k] w fun e w' => e = .returned (.int .i64 (rszV k)) ∧ w' = w) := (show ∀ k w, _ from fun k w => rsize_any k w)
    have HN : Hid (∀ (k : Nat) w, k ≤ 8 → Calls Tryd.prog 25 #[.string (s.extract 8 (8 + k))] w fun x w' => x = .returned (.int .u64 (nm s 8 (8 + k))) ∧ w' = w) := (show ∀ (k : Nat) w, _ from fun k w hk => rnm_any s 8 (8 + k) w (by omega))
    have hix : ∀ w, (Instr.index 9 (.string s) (.int .i64 6)).run Tryd.prog w = .ok (.int .u8 (byteAt s 6)) w := idx_s s 6 (by omega)
    have HB : Hid (0 ≤ byteAt s 6 ∧ byteAt s 6 < 256) := byteAt_lt s 6
    obtain ⟨F, hF⟩ : ∃ F, oneF s = F := ⟨_, rfl⟩
    have HF : Hid (findF s 7 3 = F) := hF
    rw [hF]
    clear k0 k1 k2 k3 k4 H8 hF
    go_enter Tryd.func53, Tryd.ntmps53
    go_wp2_with fail
    refine (H2.out _).mono ?_
    rintro x w1 ⟨rfl, rfl⟩
    go_wp2_with fail
    go_loopw [3] (fun i wr => ∃ (k : Int) (n : Nat), 3 ≤ k ∧ k + (n : Int) = 10 ∧ i = .int .i64 k ∧ Hid (findF s n k = F) ∧ W3 wr w.heap.size (0, 0, 0) ∧ w.heap.size < wr.heap.size ∧ Below w.heap.size w wr) (fun i _ => 10 - (intOf i).toNat)
    case atStart => exact ⟨3, 7, by omega, by omega, rfl, HF, W3.new w (0, 0, 0), by simp, by go_grown⟩
    case round =>
      obtain ⟨k, n, hk0, hkn, rfl, HG, d0, hz, hbel⟩ := hrel
      by_cases hn : n = 0
      · subst hn
        have hk : k = 10 := by omega
        subst hk
        have e : F = 0 := HG.out.symm
        subst e
        have d0' := d0
        obtain ⟨⟨c0, c1, c2⟩, cf⟩ := d0'
        go_wp2_with fail
        have d20 : W3 _ w.heap.size (0, 0, 0) := ((d0.set0 0).set1 0).set2 0
        refine bodyPost_ret (resT (b := w.heap.size) (t := (0, 0, 0)) rfl rfl d20.c) rfl ?_
        exact ⟨rfl, ((hbel.setCell (Nat.le_refl _) _).setCell (Nat.le_refl _) _).setCell (Nat.le_refl _) _⟩
      · obtain ⟨m, rfl⟩ : ∃ m, n = m + 1 := ⟨n - 1, by omega⟩
        have hk9 : k ≤ 9 := by omega
        have HG2 : Hid ((if condB s k = true then k else findF s m (k + 1)) = F) := (show _ = _ by rw [← HG.out]; rfl)
        have HCk : Hid (∀ w, Calls Tryd.prog 45 #[.int .i64 k] w fun e w' => e = .returned (.int .i64 (codeV k)) ∧ Below w.heap.size w w') := (show ∀ w, _ from fun w => HC.out k w)
        obtain ⟨cr0, cr1⟩ := code_range k
        have HCB : Hid (condB s k = (decide (0 < codeV k) && (byteAt s 6 == 2 * codeV k) && decide (s.size = 16))) := (show _ = _ from rfl)
        obtain ⟨y0, y1⟩ := HB.out
        have hwb : IntKind.i64.wrap (byteAt s 6) = byteAt s 6 := by rw [IntKind.wrap_i64]; omega
        generalize byteAt s 6 = Y at *
        generalize codeV k = c at *
        have hwc : IntKind.i64.wrap (2 * c) = 2 * c := by rw [IntKind.wrap_i64]; omega
        have next : condB s k = false → Hid (findF s m (k + 1) = F) := fun hc => (show _ = _ by rw [← HG2.out, if_neg (by rw [hc]; decide)])
        have done : condB s k = true → Hid (k = F) := fun hc => (show _ = _ by rw [← HG2.out, if_pos hc])
        cases b1 : decide (0 < c) with
        | false =>
          have HNx := next (by rw [HCB.out, b1]; rfl)
          clear next done HG2 HCB HG
          go_wp2_with fail
          refine wp_region_grow (by kernel_rfl) (by kernel_rfl) ?_
          repeat (go_big_quiet_step (first | (go_at_call 45; exact quiet_gr (HCk.out _))))
          refine wpQuiet_nil ?_
          rintro w3 hw'
          have g3 := gr_elim hw'
          clear hw'
          go_wp2_with fail
          go_roundw
          case rel => exact ⟨k + 1, m, by omega, by omega, by go_num, HNx, d0.block (g3.block _ hz), Nat.lt_of_lt_of_le hz g3.size, btr hbel g3 (by omega)⟩
          case measure => simp [intOf]; omega
        | true =>
          cases b2 : (Y == 2 * c) with
          | false =>
            have HNx := next (by rw [HCB.out, b1, b2]; rfl)
            clear next done HG2 HCB HG
            go_wp2_with fail
            refine wp_region_grow (by kernel_rfl) (by kernel_rfl) ?_
            repeat (go_big_quiet_step (first | (go_at_call 45; exact quiet_gr (HCk.out _))))
            refine wpQuiet_nil ?_
            rintro w3 hw'
            have g3 := gr_elim hw'
            clear hw'
            go_wp2_with fail
            go_roundw
            case rel => exact ⟨k + 1, m, by omega, by omega, by go_num, HNx, d0.block (g3.block _ hz), Nat.lt_of_lt_of_le hz g3.size, btr hbel g3 (by omega)⟩
            case measure => simp [intOf]; omega
          | true =>
            by_cases b3 : s.size = 16
            · have HFk := done (by rw [HCB.out, b1, b2]; simp [b3])
              have b4 : ((s.size : Int) == 16) = true := by rw [beq_iff_eq]; omega
              have hFk := HFk.out
              subst hFk
              clear next done HG2 HCB HG
              have k0' : ¬ k = 0 := by omega
              have HSk : Hid (∀ w, Calls Tryd.prog 46 #[.int .i64 k] w fun e w' => e = .returned (.int .i64 (rszV k)) ∧ w' = w) := (show ∀ w, _ from fun w => HS.out k w)
              have hr : rszV k ≤ 4 := by unfold rszV; split <;> omega
              have HNk : Hid (∀ w, Calls Tryd.prog 25 #[.string (s.extract 8 (8 + rszV k))] w fun x w' => x = .returned (.int .u64 (nm s 8 (8 + rszV k))) ∧ w' = w) := (show ∀ w, _ from fun w => HN.out (rszV k) w (by omega))
              have hsl : ∀ w, (Instr.slice 9 (.string s) (some (.int .i64 8)) (some (.int .i64 (8 + (rszV k : Int)))) none).run Tryd.prog w = .ok (.string (s.extract 8 (8 + rszV k))) w := fun w => by
                have := slice_lh s 8 (8 + (rszV k : Int)) (by omega) (by omega) (by omega) w
                rwa [show (8 + (rszV k : Int)).toNat = 8 + rszV k by omega] at this
              obtain ⟨v, hv⟩ : ∃ v, nm s 8 (8 + rszV k) = v := ⟨_, rfl⟩
              obtain ⟨Q, hQ⟩ : ∃ Q, s.extract 8 (8 + rszV k) = Q := ⟨_, rfl⟩
              rw [hv, hQ] at HNk
              simp only [hQ] at hsl
              have HV : Hid (nm s 8 (8 + rszV k) = v) := hv
              clear hv hQ
              obtain ⟨z, hz1⟩ : ∃ z, rszV k = z := ⟨_, rfl⟩
              rw [hz1] at HSk hr hsl
              have HK : Hid (¬ k = 0) := k0'
              clear hz1 k0'
              go_wp2_with fail
              refine wp_region_grow (by kernel_rfl) (by kernel_rfl) ?_
              repeat (go_big_quiet_step (first | (go_at_call 45; exact quiet_gr (HCk.out _))))
              refine wpQuiet_nil ?_
              rintro w3 hw'
              have g3 := gr_elim hw'
              have d3 := d0.block (g3.block _ hz)
              have G3 : Below w.heap.size w w3 := btr hbel g3 (by omega)
              clear hw' g3 d0 hbel
              have d3' := d3
              obtain ⟨⟨c0, c1, c2⟩, cf⟩ := d3'
              go_wp2_with fail
              refine (HSk.out _).mono ?_
              rintro x w4 ⟨rfl, rfl⟩
              go_wp2_with fail
              refine (HNk.out _).mono ?_
              rintro x w4 ⟨rfl, rfl⟩
              go_wp2_with fail
              have d20 : W3 _ w.heap.size (5, k, v) := ((d3.set0 5).set1 k).set2 v
              refine bodyPost_ret (resT (b := w.heap.size) (t := (5, k, v)) rfl rfl d20.c) rfl ?_
              exact ⟨by first | rw [HV.out] | rw [if_neg HK.out, HV.out], ((G3.setCell (Nat.le_refl _) _).setCell (Nat.le_refl _) _).setCell (Nat.le_refl _) _⟩
            · have HNx := next (by rw [HCB.out, b1, b2]; simp [b3])
              have b4 : ((s.size : Int) == 16) = false := by rw [beq_eq_false_iff_ne]; omega
              clear next done HG2 HCB HG
              go_wp2_with fail
              refine wp_region_grow (by kernel_rfl) (by kernel_rfl) ?_
              repeat (go_big_quiet_step (first | (go_at_call 45; exact quiet_gr (HCk.out _))))
              refine wpQuiet_nil ?_
              rintro w3 hw'
              have g3 := gr_elim hw'
              clear hw'
              go_wp2_with fail
              go_roundw
              case rel => exact ⟨k + 1, m, by omega, by omega, by go_num, HNx, d0.block (g3.block _ hz), Nat.lt_of_lt_of_le hz g3.size, btr hbel g3 (by omega)⟩
              case measure => simp [intOf]; omega
  · have e : oneV s = (0, 0, 0) := by unfold oneV; rw [if_neg k0, if_neg k1, if_neg k2, if_neg k3, if_neg k4]
    rw [e]
    have b0 : (nm s 0 2 == 0) = false := by simpa using k0
    have b1 : (nm s 0 2 == 22) = false := by simpa using k1
    have b2 : (nm s 0 2 == 17) = false := by simpa using k2
    have b3 : (nm s 0 2 == 18) = false := by simpa using k3
    have b4 : (nm s 0 2 == 25) = false := by simpa using k4
    clear k0 k1 k2 k3 k4 H8 e
    generalize nm s 0 2 = N at *
    go_enter Tryd.func53, Tryd.ntmps53
    go_wp2_with fail
    refine (H2.out _).mono ?_
    rintro x w1 ⟨rfl, rfl⟩
    go_wp2_with fail
    refine bodyPost_ret (resT (b := w.heap.size) (t := (0, 0, 0)) rfl rfl (C3.new w (0, 0, 0))) rfl ?_
    exact ⟨rfl, by go_grown⟩
end Go.Proofs.YtcbhkbiofmimbaaDoor
