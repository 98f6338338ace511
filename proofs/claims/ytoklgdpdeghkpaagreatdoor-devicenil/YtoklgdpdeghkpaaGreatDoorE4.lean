/-
  What wire reads out of an echo, as contracts.
-/
import Derived.Test.YtoklgdpdeghkpaaGreatDoorE3
namespace Go.Proofs.YtoklgdpdeghkpaaGreatDoor
open Go.ChangeShapes Go.WideShapes Go.ChangeAt Go.RowKit
set_option linter.unusedVariables false
set_option linter.unusedSimpArgs false

theorem slice_h (s : ByteArray) (j : Int) (h0 : 0 ≤ j) (h2 : j ≤ s.size) (w : World) : (Instr.slice 9 (.string s) none (some (.int .i64 j)) none).run Tryz.prog w = .ok (.string (s.extract 0 j.toNat)) w :=
  by rw [run_slice_string_h (ht := Tryz.underlying9) (h0 := h0) (h2 := h2)]
theorem rd_any (s : ByteArray) (w : World) : Calls Tryz.prog 49 #[.string s] w fun x w' => x = .returned (.pointer (some ⟨w.heap.size, 0, none⟩)) ∧ Rd w' w.heap.size s 0 ∧ Below w.heap.size w w' ∧ w'.heap.size = w.heap.size + 1 := by
  refine (read_any s w).mono ?_
  rintro x w' ⟨rfl, rfl⟩
  exact ⟨rfl, Rd.new w s 0 _, by go_grown, by simp⟩
/-- The first byte, and the length that is said. -/
def sz1 (d : ByteArray) : Int := (⟨d, 0⟩ : RS).num 1
def sz2 (d : ByteArray) : Int := (((⟨d, 0⟩ : RS).skip 1).skip 1).num 2
def saidE (d : ByteArray) : Int := if d.size < 8 then 10 else if sz1 d ≠ 4 ∨ sz2 d < 8 then 11 else if (d.size : Int) < sz2 d then 10 else 0
def saidZ (d : ByteArray) : Int := if saidE d = 0 then sz2 d else 0
theorem sz1_lt (d : ByteArray) : 0 ≤ sz1 d ∧ sz1 d < 256 := by simpa [sz1] using RS.num_lt (⟨d, 0⟩ : RS) 1 (by omega)
theorem sz2_lt (d : ByteArray) : 0 ≤ sz2 d ∧ sz2 d < 65536 := by simpa [sz2] using RS.num_lt (((⟨d, 0⟩ : RS).skip 1).skip 1) 2 (by omega)
set_option maxHeartbeats 4000000 in
theorem said_any (d : ByteArray) (w : World) (hs : d.size ≤ maxLen) : Calls Tryz.prog 26 #[.string d] w fun e w' => e = .returned (.tuple #[.int .i64 (saidZ d), .int .i64 (saidE d)]) ∧ Below w.heap.size w w' := by
  by_cases h8 : d.size < 8
  · have e1 : saidE d = 10 := by unfold saidE; rw [if_pos h8]
    have e2 : saidZ d = 0 := by unfold saidZ; rw [e1]; rfl
    have h8' : (d.size : Int) < 8 := by omega
    rw [e1, e2]
    clear e1 e2
    go_enter Tryz.func26, Tryz.ntmps26
    go_wp2_with fail
    go_ret2
    exact ⟨rfl, Below.refl _ _⟩
  · have h8' : ¬ ((d.size : Int) < 8) := by omega
    obtain ⟨a0, a1⟩ := sz1_lt d
    obtain ⟨b0, b1⟩ := sz2_lt d
    have z1 := Nat.le_trans (RS.skip_size (⟨d, 0⟩ : RS) 1) hs
    have z2 := Nat.le_trans (RS.skip_size ((⟨d, 0⟩ : RS).skip 1) 1) z1
    have HR : Hid (∀ w, Calls Tryz.prog 49 #[.string d] w fun x w' => x = .returned (.pointer (some ⟨w.heap.size, 0, none⟩)) ∧ Rd w' w.heap.size d 0 ∧ Below w.heap.size w w') := (show ∀ w, _ from fun w => (read_any d w).mono fun x w' ⟨h1, h2⟩ => ⟨h1, h2 ▸ Rd.new w d 0 _, by rw [h2]; go_grown⟩)
    have N1 : Hid (∀ w1, Rd w1 w.heap.size d 0 → Calls Tryz.prog 50 #[.pointer (some ⟨w.heap.size, 0, none⟩), .int .i64 1] w1 fun x w' => x = .returned (.int .u64 (sz1 d)) ∧ Rd w' w.heap.size ((⟨d, 0⟩ : RS).skip 1).s ((⟨d, 0⟩ : RS).skip 1).e ∧ Only w.heap.size w1 w') := (show ∀ w1, _ from fun w1 h => numR w.heap.size ⟨d, 0⟩ 1 w1 hs h)
    have N2 : Hid (∀ w1, Rd w1 w.heap.size ((⟨d, 0⟩ : RS).skip 1).s ((⟨d, 0⟩ : RS).skip 1).e → Calls Tryz.prog 50 #[.pointer (some ⟨w.heap.size, 0, none⟩), .int .i64 1] w1 fun x w' => x = .returned (.int .u64 (((⟨d, 0⟩ : RS).skip 1).num 1)) ∧ Rd w' w.heap.size (((⟨d, 0⟩ : RS).skip 1).skip 1).s (((⟨d, 0⟩ : RS).skip 1).skip 1).e ∧ Only w.heap.size w1 w') := (show ∀ w1, _ from fun w1 h => numR w.heap.size _ 1 w1 z1 h)
    have N3 : Hid (∀ w1, Rd w1 w.heap.size (((⟨d, 0⟩ : RS).skip 1).skip 1).s (((⟨d, 0⟩ : RS).skip 1).skip 1).e → Calls Tryz.prog 50 #[.pointer (some ⟨w.heap.size, 0, none⟩), .int .i64 2] w1 fun x w' => x = .returned (.int .u64 (sz2 d)) ∧ Only w.heap.size w1 w') := (show ∀ w1, _ from fun w1 h => (numR w.heap.size _ 2 w1 z2 h).mono fun _ _ ⟨p, _, q⟩ => ⟨p, q⟩)
    have HE : Hid (saidE d = if sz1 d ≠ 4 ∨ sz2 d < 8 then 11 else if (d.size : Int) < sz2 d then 10 else 0) := (show _ = _ by unfold saidE; rw [if_neg h8])
    have HZ : Hid (saidZ d = if saidE d = 0 then sz2 d else 0) := (show _ = _ from rfl)
    clear z1 z2
    generalize ((⟨d, 0⟩ : RS).skip 1).num 1 = X at *
    generalize ((⟨d, 0⟩ : RS).skip 1).skip 1 = R2 at *
    generalize (⟨d, 0⟩ : RS).skip 1 = R1 at *
    generalize saidE d = E at *
    generalize saidZ d = Z at *
    generalize sz1 d = A1 at *
    generalize sz2 d = A2 at *
    rcases (show (¬ A1 = 4) ∨ (A1 = 4 ∧ A2 < 8) ∨ (A1 = 4 ∧ ¬ A2 < 8 ∧ (d.size : Int) < A2) ∨ (A1 = 4 ∧ ¬ A2 < 8 ∧ ¬ (d.size : Int) < A2) by omega) with c | ⟨c, c2⟩ | ⟨c, c2, c3⟩ | ⟨c, c2, c3⟩
    · have e1 : E = 11 := by rw [HE.out, if_pos (.inl c)]
      have e2 : Z = 0 := by rw [HZ.out, e1]; rfl
      have c' : (A1 != 4) = true := by simpa using c
      rw [e1, e2]
      clear e1 e2 c HE HZ
      go_enter Tryz.func26, Tryz.ntmps26
      go_wp2_with fail
      refine (HR.out _).mono ?_
      rintro r w1 ⟨rfl, r1, g1⟩
      go_wp2_with fail
      refine (N1.out _ r1).mono ?_
      rintro r w2 ⟨rfl, r2, o2⟩
      go_wp2_with fail
      refine (N2.out _ r2).mono ?_
      rintro r w3 ⟨rfl, r3, o3⟩
      go_wp2_with fail
      refine (N3.out _ r3).mono ?_
      rintro r w4 ⟨rfl, o4⟩
      go_wp2_with fail
      go_ret2
      exact ⟨rfl, o4.below (Nat.le_refl _) (o3.below (Nat.le_refl _) (o2.below (Nat.le_refl _) g1))⟩
    · have e1 : E = 11 := by rw [HE.out, if_pos (.inr c2)]
      have e2 : Z = 0 := by rw [HZ.out, e1]; rfl
      have c' : (A1 != 4) = false := by simpa using c
      rw [e1, e2]
      clear e1 e2 c HE HZ
      go_enter Tryz.func26, Tryz.ntmps26
      go_wp2_with fail
      refine (HR.out _).mono ?_
      rintro r w1 ⟨rfl, r1, g1⟩
      go_wp2_with fail
      refine (N1.out _ r1).mono ?_
      rintro r w2 ⟨rfl, r2, o2⟩
      go_wp2_with fail
      refine (N2.out _ r2).mono ?_
      rintro r w3 ⟨rfl, r3, o3⟩
      go_wp2_with fail
      refine (N3.out _ r3).mono ?_
      rintro r w4 ⟨rfl, o4⟩
      go_wp2_with fail
      go_ret2
      exact ⟨rfl, o4.below (Nat.le_refl _) (o3.below (Nat.le_refl _) (o2.below (Nat.le_refl _) g1))⟩
    · have e1 : E = 10 := by rw [HE.out, if_neg (by omega), if_pos c3]
      have e2 : Z = 0 := by rw [HZ.out, e1]; rfl
      have c' : (A1 != 4) = false := by simpa using c
      rw [e1, e2]
      clear e1 e2 c HE HZ
      go_enter Tryz.func26, Tryz.ntmps26
      go_wp2_with fail
      refine (HR.out _).mono ?_
      rintro r w1 ⟨rfl, r1, g1⟩
      go_wp2_with fail
      refine (N1.out _ r1).mono ?_
      rintro r w2 ⟨rfl, r2, o2⟩
      go_wp2_with fail
      refine (N2.out _ r2).mono ?_
      rintro r w3 ⟨rfl, r3, o3⟩
      go_wp2_with fail
      refine (N3.out _ r3).mono ?_
      rintro r w4 ⟨rfl, o4⟩
      go_wp2_with fail
      go_ret2
      exact ⟨rfl, o4.below (Nat.le_refl _) (o3.below (Nat.le_refl _) (o2.below (Nat.le_refl _) g1))⟩
    · have e1 : E = 0 := by rw [HE.out, if_neg (by omega), if_neg c3]
      have e2 : Z = A2 := by rw [HZ.out, e1]; rfl
      have c' : (A1 != 4) = false := by simpa using c
      rw [e1, e2]
      clear e1 e2 c HE HZ
      go_enter Tryz.func26, Tryz.ntmps26
      go_wp2_with fail
      refine (HR.out _).mono ?_
      rintro r w1 ⟨rfl, r1, g1⟩
      go_wp2_with fail
      refine (N1.out _ r1).mono ?_
      rintro r w2 ⟨rfl, r2, o2⟩
      go_wp2_with fail
      refine (N2.out _ r2).mono ?_
      rintro r w3 ⟨rfl, r3, o3⟩
      go_wp2_with fail
      refine (N3.out _ r3).mono ?_
      rintro r w4 ⟨rfl, o4⟩
      go_wp2_with fail
      go_ret2
      exact ⟨rfl, o4.below (Nat.le_refl _) (o3.below (Nat.le_refl _) (o2.below (Nat.le_refl _) g1))⟩
set_option maxRecDepth 20000 in
set_option maxHeartbeats 8000000 in
theorem dec_early (d : ByteArray) (w : World) (hs : d.size ≤ maxLen) (he : saidE d ≠ 0) : Calls Tryz.prog 10 #[.string d] w fun e w' => e = .returned (.tuple #[msV ms0, .int .i64 0, .int .i64 (saidE d)]) ∧ Below w.heap.size w w' := by
  obtain ⟨W1, hW1⟩ : ∃ W1, mx w ms0 = W1 := ⟨_, rfl⟩
  have hG : Below w.heap.size w W1 := by rw [← hW1]; go_grown
  have hT : W1.there w.heap.size 0 26 := hW1 ▸ there_new w (msC ms0) 52
  have z1 : w.heap.size < W1.heap.size := by rw [← hW1]; simp
  have HC : Hid (Calls Tryz.prog 26 #[.string d] W1 fun e w' => e = .returned (.tuple #[.int .i64 0, .int .i64 (saidE d)]) ∧ w'.there w.heap.size 0 26 ∧ Below w.heap.size w w') := (show Calls _ _ _ _ _ from by
    have e2 : saidZ d = 0 := by unfold saidZ; rw [if_neg he]
    have := said_any d W1 hs
    rw [e2] at this
    exact this.mono fun _ w' ⟨h1, h2⟩ => ⟨h1, there_block hT (h2.block _ z1), btr hG h2 (Nat.le_refl _)⟩)
  have hb : (saidE d != 0) = true := by simpa using he
  have HW1 : Hid (w.alloc (.cells #[.int .i64 ms0.kind, .int .i64 ms0.xid, .int .i64 0, .bool false, .int .i64 0, .int .i64 0, .slice none 0 0, .slice none 0 0, .slice none 0 0, .bool false, .int .u64 0, .int .u64 0, .int .i64 0, .int .i64 0, .int .i64 0, .int .i64 0, .slice none 0 0, .int .i64 0, .int .i64 0, .int .i64 0, .int .i64 0, .int .i64 0, .int .i64 0, .bool false, .slice none 0 0, .string ms0.dat] 52) = W1) := hW1
  have HWz : Hid (w.alloc (.cells #[.int .i64 0, .int .i64 0, .int .i64 0, .bool false, .int .i64 0, .int .i64 0, .slice none 0 0, .slice none 0 0, .slice none 0 0, .bool false, .int .u64 0, .int .u64 0, .int .i64 0, .int .i64 0, .int .i64 0, .int .i64 0, .slice none 0 0, .int .i64 0, .int .i64 0, .int .i64 0, .int .i64 0, .int .i64 0, .int .i64 0, .bool false, .slice none 0 0, .string ⟨#[]⟩] 52) = W1) := hW1
  clear hs he hW1 hG hT z1
  generalize saidE d = E at *
  go_enter Tryz.func10, Tryz.ntmps10
  go_wp2_with fail
  rw [HWz.out]
  refine HC.out.mono ?_
  rintro r w1 ⟨rfl, t1, g1⟩
  go_wp2_with (refine store_M rfl (.tmp 2) (.tmp 16) rfl w.heap.size ms0 rfl rfl t1 ?_; intro V bV tV oV; have GV := oV.belowK (Nat.le_refl _) g1; clear oV tV)
  refine bodyPost_ret (resMee (b := w.heap.size) (m := ms0) rfl rfl bV) rfl ?_
  exact ⟨rfl, GV⟩
set_option maxHeartbeats 4000000 in
theorem rd_set (d : ByteArray) (w : World) (hs : d.size ≤ 65535) : (hdR d).s.size ≤ 65535 ∧ ∃ W0, W0.there w.heap.size 0 26 ∧ W0.heap.size = w.heap.size + 1 ∧ Below w.heap.size w W0 ∧ Hid (w.alloc (.cells #[.int .i64 0, .int .i64 0, .int .i64 0, .bool false, .int .i64 0, .int .i64 0, .slice none 0 0, .slice none 0 0, .slice none 0 0, .bool false, .int .u64 0, .int .u64 0, .int .i64 0, .int .i64 0, .int .i64 0, .int .i64 0, .slice none 0 0, .int .i64 0, .int .i64 0, .int .i64 0, .int .i64 0, .int .i64 0, .int .i64 0, .bool false, .slice none 0 0, .string ⟨#[]⟩] 52) = W0) ∧ Hid (Calls Tryz.prog 49 #[.string d] W0 fun x w' => x = .returned (.pointer (some ⟨w.heap.size + 1, 0, none⟩)) ∧ Rd w' (w.heap.size + 1) d 0 ∧ w'.there w.heap.size 0 26 ∧ w'.heap.size = w.heap.size + 2 ∧ Below w.heap.size w w') ∧ Hid (∀ w_1, Rd w_1 (w.heap.size + 1) d 0 → Calls Tryz.prog 51 #[.pointer (some ⟨w.heap.size + 1, 0, none⟩), .int .i64 1] w_1 fun x w' => x = .returned (.string ((⟨d, 0⟩ : RS).bytes 1)) ∧ Rd w' (w.heap.size + 1) ((⟨d, 0⟩ : RS).jump 1).s ((⟨d, 0⟩ : RS).jump 1).e ∧ Only (w.heap.size + 1) w_1 w') ∧ Hid (∀ w_1, Rd w_1 (w.heap.size + 1) ((⟨d, 0⟩ : RS).jump 1).s ((⟨d, 0⟩ : RS).jump 1).e → Calls Tryz.prog 52 #[.pointer (some ⟨w.heap.size + 1, 0, none⟩), .int .i64 1] w_1 fun x w' => x = .returned (.int .i64 (hdK d)) ∧ Rd w' (w.heap.size + 1) (((⟨d, 0⟩ : RS).jump 1).skip 1).s (((⟨d, 0⟩ : RS).jump 1).skip 1).e ∧ Only (w.heap.size + 1) w_1 w') ∧ Hid (∀ w_1, Rd w_1 (w.heap.size + 1) (((⟨d, 0⟩ : RS).jump 1).skip 1).s (((⟨d, 0⟩ : RS).jump 1).skip 1).e → Calls Tryz.prog 51 #[.pointer (some ⟨w.heap.size + 1, 0, none⟩), .int .i64 2] w_1 fun x w' => x = .returned (.string ((((⟨d, 0⟩ : RS).jump 1).skip 1).bytes 2)) ∧ Rd w' (w.heap.size + 1) ((((⟨d, 0⟩ : RS).jump 1).skip 1).jump 2).s ((((⟨d, 0⟩ : RS).jump 1).skip 1).jump 2).e ∧ Only (w.heap.size + 1) w_1 w') ∧ Hid (∀ w_1, Rd w_1 (w.heap.size + 1) ((((⟨d, 0⟩ : RS).jump 1).skip 1).jump 2).s ((((⟨d, 0⟩ : RS).jump 1).skip 1).jump 2).e → Calls Tryz.prog 52 #[.pointer (some ⟨w.heap.size + 1, 0, none⟩), .int .i64 4] w_1 fun x w' => x = .returned (.int .i64 (hdX d)) ∧ Rd w' (w.heap.size + 1) (hdR d).s (hdR d).e ∧ Only (w.heap.size + 1) w_1 w') := by
  have hs' : d.size ≤ maxLen := by unfold maxLen; omega
  have z1 := Nat.le_trans (RS.jump_size (⟨d, 0⟩ : RS) 1) hs'
  have z2 := Nat.le_trans (RS.skip_size ((⟨d, 0⟩ : RS).jump 1) 1) z1
  have z3 := Nat.le_trans (RS.jump_size (((⟨d, 0⟩ : RS).jump 1).skip 1) 2) z2
  have z4 : (hdR d).s.size ≤ 65535 := Nat.le_trans (RS.skip_size _ _) (Nat.le_trans (RS.jump_size _ _) (Nat.le_trans (RS.skip_size _ _) (Nat.le_trans (RS.jump_size _ _) hs)))
  obtain ⟨W0, hW0⟩ : ∃ W0, mx w ms0 = W0 := ⟨_, rfl⟩
  have t0 : W0.there w.heap.size 0 26 := hW0 ▸ there_new w (msC ms0) 52
  have s0 : W0.heap.size = w.heap.size + 1 := by rw [← hW0]; simp
  have g0 : Below w.heap.size w W0 := by rw [← hW0]; go_grown
  have HW0 : Hid (w.alloc (.cells #[.int .i64 0, .int .i64 0, .int .i64 0, .bool false, .int .i64 0, .int .i64 0, .slice none 0 0, .slice none 0 0, .slice none 0 0, .bool false, .int .u64 0, .int .u64 0, .int .i64 0, .int .i64 0, .int .i64 0, .int .i64 0, .slice none 0 0, .int .i64 0, .int .i64 0, .int .i64 0, .int .i64 0, .int .i64 0, .int .i64 0, .bool false, .slice none 0 0, .string ⟨#[]⟩] 52) = W0) := hW0
  clear hW0
  have HR : Hid (Calls Tryz.prog 49 #[.string d] W0 fun x w' => x = .returned (.pointer (some ⟨w.heap.size + 1, 0, none⟩)) ∧ Rd w' (w.heap.size + 1) d 0 ∧ w'.there w.heap.size 0 26 ∧ w'.heap.size = w.heap.size + 2 ∧ Below w.heap.size w w') := (show Calls _ _ _ _ _ from (rd_any d W0).mono fun x w' ⟨h1, h2, h3, h4⟩ => ⟨by rw [h1, s0], s0 ▸ h2, there_block t0 (h3.block _ (by omega)), by rw [h4, s0], btr g0 h3 (Nat.le_refl _)⟩)
  have N1 : Hid (∀ w_1, Rd w_1 (w.heap.size + 1) d 0 → Calls Tryz.prog 51 #[.pointer (some ⟨w.heap.size + 1, 0, none⟩), .int .i64 1] w_1 fun x w' => x = .returned (.string ((⟨d, 0⟩ : RS).bytes 1)) ∧ Rd w' (w.heap.size + 1) ((⟨d, 0⟩ : RS).jump 1).s ((⟨d, 0⟩ : RS).jump 1).e ∧ Only (w.heap.size + 1) w_1 w') := (show ∀ w_1, Rd w_1 (w.heap.size + 1) d 0 → _ from fun w_1 h => bytesR (w.heap.size + 1) (⟨d, 0⟩ : RS) 1 w_1 h)
  have N2 : Hid (∀ w_1, Rd w_1 (w.heap.size + 1) ((⟨d, 0⟩ : RS).jump 1).s ((⟨d, 0⟩ : RS).jump 1).e → Calls Tryz.prog 52 #[.pointer (some ⟨w.heap.size + 1, 0, none⟩), .int .i64 1] w_1 fun x w' => x = .returned (.int .i64 (hdK d)) ∧ Rd w' (w.heap.size + 1) (((⟨d, 0⟩ : RS).jump 1).skip 1).s (((⟨d, 0⟩ : RS).jump 1).skip 1).e ∧ Only (w.heap.size + 1) w_1 w') := (show ∀ w_1, Rd w_1 (w.heap.size + 1) _ _ → _ from fun w_1 h => n1R (w.heap.size + 1) ((⟨d, 0⟩ : RS).jump 1) w_1 z1 h)
  have N3 : Hid (∀ w_1, Rd w_1 (w.heap.size + 1) (((⟨d, 0⟩ : RS).jump 1).skip 1).s (((⟨d, 0⟩ : RS).jump 1).skip 1).e → Calls Tryz.prog 51 #[.pointer (some ⟨w.heap.size + 1, 0, none⟩), .int .i64 2] w_1 fun x w' => x = .returned (.string ((((⟨d, 0⟩ : RS).jump 1).skip 1).bytes 2)) ∧ Rd w' (w.heap.size + 1) ((((⟨d, 0⟩ : RS).jump 1).skip 1).jump 2).s ((((⟨d, 0⟩ : RS).jump 1).skip 1).jump 2).e ∧ Only (w.heap.size + 1) w_1 w') := (show ∀ w_1, Rd w_1 (w.heap.size + 1) _ _ → _ from fun w_1 h => bytesR (w.heap.size + 1) (((⟨d, 0⟩ : RS).jump 1).skip 1) 2 w_1 h)
  have N4 : Hid (∀ w_1, Rd w_1 (w.heap.size + 1) ((((⟨d, 0⟩ : RS).jump 1).skip 1).jump 2).s ((((⟨d, 0⟩ : RS).jump 1).skip 1).jump 2).e → Calls Tryz.prog 52 #[.pointer (some ⟨w.heap.size + 1, 0, none⟩), .int .i64 4] w_1 fun x w' => x = .returned (.int .i64 (hdX d)) ∧ Rd w' (w.heap.size + 1) (hdR d).s (hdR d).e ∧ Only (w.heap.size + 1) w_1 w') := (show ∀ w_1, Rd w_1 (w.heap.size + 1) _ _ → _ from fun w_1 h => n4R (w.heap.size + 1) ((((⟨d, 0⟩ : RS).jump 1).skip 1).jump 2) w_1 z3 h)
  exact ⟨z4, W0, t0, s0, g0, HW0, HR, N1, N2, N3, N4⟩
theorem rd_v {d : ByteArray} {w w3 : World} (K : Int) (t3 : w3.there w.heap.size 0 26) (s3 : w3.heap.size = w.heap.size + 2) (g3 : Below w.heap.size w w3) (r3 : Rd w3 (w.heap.size + 1) (((⟨d, 0⟩ : RS).jump 1).skip 1).s (((⟨d, 0⟩ : RS).jump 1).skip 1).e) : (w3.alloc (.cells #[.int .i64 0, .int .i64 0, .int .i64 0, .bool false, .int .i64 0, .int .i64 0, .slice none 0 0, .slice none 0 0, .slice none 0 0, .bool false, .int .u64 0, .int .u64 0, .int .i64 0, .int .i64 0, .int .i64 0, .int .i64 0, .slice none 0 0, .int .i64 0, .int .i64 0, .int .i64 0, .int .i64 0, .int .i64 0, .int .i64 0, .bool false, .slice none 0 0, .string ⟨#[]⟩] 52)).there (w.heap.size + 2) 0 26 ∧ Hid (∀ V, Bm V (w.heap.size + 2) { ms0 with kind := K } → V.there (w.heap.size + 2) 0 26 → Only (w.heap.size + 2) (w3.alloc (.cells #[.int .i64 0, .int .i64 0, .int .i64 0, .bool false, .int .i64 0, .int .i64 0, .slice none 0 0, .slice none 0 0, .slice none 0 0, .bool false, .int .u64 0, .int .u64 0, .int .i64 0, .int .i64 0, .int .i64 0, .int .i64 0, .slice none 0 0, .int .i64 0, .int .i64 0, .int .i64 0, .int .i64 0, .int .i64 0, .int .i64 0, .bool false, .slice none 0 0, .string ⟨#[]⟩] 52)) V → Bm V (w.heap.size + 2) { ms0 with kind := K } ∧ V.there (w.heap.size + 2) 0 26 ∧ V.there w.heap.size 0 26 ∧ Rd V (w.heap.size + 1) (((⟨d, 0⟩ : RS).jump 1).skip 1).s (((⟨d, 0⟩ : RS).jump 1).skip 1).e ∧ Below w.heap.size w V ∧ V.heap.size = w.heap.size + 3) := by
  have HA : Hid (Below w3.heap.size w3 (w3.alloc (.cells #[.int .i64 0, .int .i64 0, .int .i64 0, .bool false, .int .i64 0, .int .i64 0, .slice none 0 0, .slice none 0 0, .slice none 0 0, .bool false, .int .u64 0, .int .u64 0, .int .i64 0, .int .i64 0, .int .i64 0, .int .i64 0, .slice none 0 0, .int .i64 0, .int .i64 0, .int .i64 0, .int .i64 0, .int .i64 0, .int .i64 0, .bool false, .slice none 0 0, .string ⟨#[]⟩] 52))) := (show Below _ _ _ by go_grown)
  have hY : (w3.alloc (.cells #[.int .i64 0, .int .i64 0, .int .i64 0, .bool false, .int .i64 0, .int .i64 0, .slice none 0 0, .slice none 0 0, .slice none 0 0, .bool false, .int .u64 0, .int .u64 0, .int .i64 0, .int .i64 0, .int .i64 0, .int .i64 0, .slice none 0 0, .int .i64 0, .int .i64 0, .int .i64 0, .int .i64 0, .int .i64 0, .int .i64 0, .bool false, .slice none 0 0, .string ⟨#[]⟩] 52)).there (w.heap.size + 2) 0 26 := (show World.there _ _ _ _ by rw [← s3]; exact there_new w3 (msC ms0) 52)
  have HV : Hid (∀ V, Bm V (w.heap.size + 2) { ms0 with kind := K } → V.there (w.heap.size + 2) 0 26 → Only (w.heap.size + 2) (w3.alloc (.cells #[.int .i64 0, .int .i64 0, .int .i64 0, .bool false, .int .i64 0, .int .i64 0, .slice none 0 0, .slice none 0 0, .slice none 0 0, .bool false, .int .u64 0, .int .u64 0, .int .i64 0, .int .i64 0, .int .i64 0, .int .i64 0, .slice none 0 0, .int .i64 0, .int .i64 0, .int .i64 0, .int .i64 0, .int .i64 0, .int .i64 0, .bool false, .slice none 0 0, .string ⟨#[]⟩] 52)) V → Bm V (w.heap.size + 2) { ms0 with kind := K } ∧ V.there (w.heap.size + 2) 0 26 ∧ V.there w.heap.size 0 26 ∧ Rd V (w.heap.size + 1) (((⟨d, 0⟩ : RS).jump 1).skip 1).s (((⟨d, 0⟩ : RS).jump 1).skip 1).e ∧ Below w.heap.size w V ∧ V.heap.size = w.heap.size + 3) := (show ∀ V, _ from fun V bV tV oV => by
    have e : ∀ c, c < w.heap.size + 2 → V.heap[c]? = w3.heap[c]? := fun c hc => (oV.block c (by omega)).trans (HA.out.block c (by omega))
    refine ⟨bV, tV, there_block t3 (e _ (by omega)), ?_, oV.belowK (by omega) (btr g3 HA.out (Nat.le_refl _)), ?_⟩
    · have q := e (w.heap.size + 1) (by omega)
      exact ⟨(World.cell?_of_block q).trans r3.c0, (World.cell?_of_block q).trans r3.c1, (World.frozen?_of_block q).trans r3.f0, (World.frozen?_of_block q).trans r3.f1⟩
    · rw [oV.size]; simp; omega)
  exact ⟨hY, HV⟩
theorem rd_u {d : ByteArray} {w W3 w5 : World} {K : Int} (X : Int) (b3 : Bm W3 (w.heap.size + 2) { ms0 with kind := K }) (y3 : W3.there (w.heap.size + 2) 0 26) (t3' : W3.there w.heap.size 0 26) (g3' : Below w.heap.size w W3) (s3' : W3.heap.size = w.heap.size + 3) (r5 : Rd w5 (w.heap.size + 1) (hdR d).s (hdR d).e) (O5 : Only (w.heap.size + 1) W3 w5) : ∃ U, w5.setCell ⟨w.heap.size + 2, 1, none⟩ (.int .i64 X) = U ∧ Bm U (w.heap.size + 2) ({ ms0 with kind := K, xid := X } : Ms) ∧ U.there (w.heap.size + 2) 0 26 ∧ U.there w.heap.size 0 26 ∧ Rd U (w.heap.size + 1) (hdR d).s (hdR d).e ∧ Below w.heap.size w U ∧ U.heap.size = w.heap.size + 3 ∧ w5.cell? ⟨w.heap.size + 2, 1, none⟩ = some (.int .i64 0) ∧ w5.frozen? ⟨w.heap.size + 2, 1, none⟩ = false ∧ U.cell? ⟨w.heap.size + 2, 0, none⟩ = some (.int .i64 K) := by
  have b5 := b3.block (O5.block (w.heap.size + 2) (by omega))
  have y5 := there_block y3 (O5.block (w.heap.size + 2) (by omega))
  have b6 := bm_set1 b5 1 (.int .i64 X) ({ ms0 with kind := K, xid := X } : Ms) (by decide) rfl
  have y6 := there_set1 (c := (w.heap.size + 2)) y5 1 (.int .i64 X)
  have t6 := there_set1 (c := (w.heap.size + 2)) (there_block t3' (O5.block w.heap.size (by omega))) 1 (.int .i64 X)
  have r6 : Rd (w5.setCell ⟨w.heap.size + 2, 1, none⟩ (.int .i64 X)) (w.heap.size + 1) (hdR d).s (hdR d).e := r5.only ((Only.refl (w.heap.size + 2) w5).setCell 1 _) (by omega)
  have g6 : Below w.heap.size w (w5.setCell ⟨w.heap.size + 2, 1, none⟩ (.int .i64 X)) := ((Only.refl (w.heap.size + 2) w5).setCell 1 _).belowK (by omega) (O5.belowK (by omega) g3')
  have s6 : (w5.setCell ⟨w.heap.size + 2, 1, none⟩ (.int .i64 X)).heap.size = w.heap.size + 3 := by rw [((Only.refl (w.heap.size + 2) w5).setCell 1 _).size, O5.size]; exact s3'
  obtain ⟨U, hU⟩ : ∃ U, w5.setCell ⟨w.heap.size + 2, 1, none⟩ (.int .i64 X) = U := ⟨_, rfl⟩
  rw [hU] at b6 y6 t6 r6 g6 s6
  have hU' : w5.setCell ⟨w.heap.size + 2, 1, none⟩ (.int .i64 X) = U := hU
  clear hU
  have c1 := b5 1 _ rfl
  have f1 := (y5 1 (by decide)).2
  rw [Nat.zero_add] at c1 f1
  have u0 := b6 0 _ rfl
  rw [Nat.zero_add] at u0
  exact ⟨U, hU', b6, y6, t6, r6, g6, s6, c1, f1, u0⟩
set_option maxRecDepth 20000 in
set_option maxHeartbeats 16000000 in
theorem read_e (d : ByteArray) (w : World) (hs : d.size ≤ 65535) (k1 : (hdK d == 1) = false) (k2 : (hdK d == 2) = true) : Calls Tryz.prog 27 #[.string d] w fun e w' => e = .returned (msV ⟨hdK d, hdX d, (hdR d).all⟩) ∧ Below w.heap.size w w' := by
  have hs' : d.size ≤ maxLen := by unfold maxLen; omega
  obtain ⟨z4, W0, t0, s0, g0, HW0, HR, N1, N2, N3, N4⟩ := rd_set d w hs
  have N5 : Hid (∀ w_1, Rd w_1 (w.heap.size + 1) (hdR d).s (hdR d).e → Calls Tryz.prog 53 #[.pointer (some ⟨w.heap.size + 1, 0, none⟩)] w_1 fun x w' => x = .returned (.string (hdR d).all) ∧ Rd w' (w.heap.size + 1) (hdR d).end_.s (hdR d).end_.e ∧ Only (w.heap.size + 1) w_1 w') := (show ∀ w_1, Rd w_1 (w.heap.size + 1) _ _ → _ from fun w_1 h => restAll (w.heap.size + 1) (hdR d) w_1 h)
  generalize hdK d = K at *
  generalize hdX d = X at *
  generalize (hdR d).all = D at *
  go_enter Tryz.func27, Tryz.ntmps27
  go_wp2_with fail
  rw [HW0.out]
  refine HR.out.mono ?_
  rintro x w1 ⟨rfl, r1, t1, s1, g1⟩
  go_wp2_with fail
  refine (N1.out _ r1).mono ?_
  rintro x w2 ⟨rfl, r2, o2⟩
  go_wp2_with fail
  refine (N2.out _ r2).mono ?_
  rintro x w3 ⟨rfl, r3, o3⟩
  have O3 := o2.trans o3
  have t3 := there_block t1 (O3.block w.heap.size (by omega))
  have s3 : w3.heap.size = w.heap.size + 2 := O3.size.trans s1
  have g3 : Below w.heap.size w w3 := O3.belowK (by omega) g1
  obtain ⟨hY, HV⟩ := rd_v K t3 s3 g3 r3
  clear o2 o3 O3 t1 s1 g1 r1 r2 r3 t3 g3 t0 s0 g0
  go_wp2_with (first | (refine build_M rfl (.tmp 10) rfl K rfl ?_) | (refine store_M rfl (.tmp 4) (.tmp 11) rfl (w.heap.size + 2) { ms0 with kind := K } rfl rfl hY ?_; intro W3 bW tW oW))
  obtain ⟨b3, y3, t3', r3', g3', s3'⟩ := HV.out W3 bW tW oW
  clear bW tW oW HV hY
  refine (N3.out _ r3').mono ?_
  rintro x w4 ⟨rfl, r4, o4⟩
  go_wp2_with fail
  refine (N4.out _ r4).mono ?_
  rintro x w5 ⟨rfl, r5, o5⟩
  obtain ⟨U, hU', b6, y6, t6, r6, g6, s6, c1, f1, u0⟩ := rd_u X b3 y3 t3' g3' s3' r5 (o4.trans o5)
  clear o4 o5 b3 y3 t3' r3' g3' s3' r4 r5
  go_wp2_with fail
  refine (N5.out _ r6).mono ?_
  rintro x v0 ⟨rfl, rv0, ov0⟩
  have bv0 := b6.block (ov0.block (w.heap.size + 2) (by omega))
  have yv0 := there_block y6 (ov0.block (w.heap.size + 2) (by omega))
  have tv0 := there_block t6 (ov0.block w.heap.size (by omega))
  have gv0 : Below w.heap.size w v0 := ov0.belowK (by omega) g6
  have sv0 : v0.heap.size = w.heap.size + 3 := ov0.size.trans s6
  have B0 := bm_set1 bv0 25 (.string D) ({ ms0 with kind := K, xid := X, dat := D } : Ms) (by decide) rfl
  have Y0 := there_set1 (c := (w.heap.size + 2)) yv0 25 (.string D)
  have T0 := there_set1 (c := (w.heap.size + 2)) tv0 25 (.string D)
  have G0 : Below w.heap.size w (v0.setCell ⟨w.heap.size + 2, 25, none⟩ (.string D)) := ((Only.refl (w.heap.size + 2) v0).setCell 25 _).belowK (by omega) gv0
  have O0 : Only (w.heap.size + 2) v0 (v0.setCell ⟨w.heap.size + 2, 25, none⟩ (.string D)) := (Only.refl (w.heap.size + 2) v0).setCell 25 _
  have p0 := bv0 25 _ rfl
  have q0 := (yv0 25 (by decide)).2
  rw [Nat.zero_add] at p0 q0
  obtain ⟨U0, hU0⟩ : ∃ U0, (v0.setCell ⟨w.heap.size + 2, 25, none⟩ (.string D)) = U0 := ⟨_, rfl⟩
  rw [hU0] at B0 Y0 T0 G0 O0
  go_wp2_with (first | (refine load_Mg rfl (.tmp 4) rfl (w.heap.size + 2) ({ ms0 with kind := K, xid := X, dat := D } : Ms) rfl B0 ?_) | (refine store_M rfl (.tmp 2) (.tmp 85) rfl w.heap.size ({ ms0 with kind := K, xid := X, dat := D } : Ms) rfl rfl T0 ?_; intro V bV tV oV))
  have gV := oV.belowK (Nat.le_refl _) G0
  refine bodyPost_ret (resM (b := w.heap.size) (m := ({ ms0 with kind := K, xid := X, dat := D } : Ms)) rfl rfl bV) rfl ?_
  exact ⟨rfl, gV⟩
/-- The message's own bytes. -/
def headB (d : ByteArray) : ByteArray := d.extract 0 (saidZ d).toNat
theorem said_le {d : ByteArray} (h : saidE d = 0) : 8 ≤ saidZ d ∧ saidZ d ≤ d.size ∧ saidZ d ≤ 65535 := by
  have e : saidZ d = sz2 d := by unfold saidZ; rw [if_pos h]
  have := sz2_lt d
  rw [e]
  unfold saidE at h
  split at h
  · cases h
  · split at h
    · cases h
    · split at h
      · cases h
      · omega
theorem headB_size (d : ByteArray) (h : saidE d = 0) : (headB d).size ≤ 65535 := by
  have := said_le h
  unfold headB
  rw [ByteArray.size_extract]
  omega
set_option maxRecDepth 20000 in
set_option maxHeartbeats 16000000 in
theorem dec_g (d : ByteArray) (m : Ms) (w : World) (hs : d.size ≤ maxLen) (he : saidE d = 0)
    (HR : Hid (∀ w1, Calls Tryz.prog 27 #[.string (headB d)] w1 fun e w' => e = .returned (msV m) ∧ Below w1.heap.size w1 w'))
    (HE : Hid (∀ w1, Calls Tryz.prog 28 #[msV m] w1 fun e w' => e = .returned (.tuple #[.string (headB d), .int .i64 0]) ∧ Below w1.heap.size w1 w')) :
    Calls Tryz.prog 10 #[.string d] w fun e w' => e = .returned (.tuple #[msV m, .int .i64 (saidZ d), .int .i64 0]) ∧ Below w.heap.size w w' := by
  obtain ⟨l0, l1, l2⟩ := said_le he
  have ho := headB_size d he
  obtain ⟨W1, hW1⟩ : ∃ W1, mx w ms0 = W1 := ⟨_, rfl⟩
  have hG : Below w.heap.size w W1 := by rw [← hW1]; go_grown
  have hT : W1.there w.heap.size 0 26 := hW1 ▸ there_new w (msC ms0) 52
  have z1 : w.heap.size < W1.heap.size := by rw [← hW1]; simp
  have HC : Hid (Calls Tryz.prog 26 #[.string d] W1 fun e w' => e = .returned (.tuple #[.int .i64 (saidZ d), .int .i64 0]) ∧ w'.there w.heap.size 0 26 ∧ Below w.heap.size w w' ∧ w.heap.size < w'.heap.size) := (show Calls _ _ _ _ _ from by
    have := said_any d W1 hs
    rw [he] at this
    exact this.mono fun _ w' ⟨h1, h2⟩ => ⟨h1, there_block hT (h2.block _ z1), btr hG h2 (Nat.le_refl _), Nat.lt_of_lt_of_le z1 h2.size⟩)
  have hsl : ∀ w, (Instr.slice 9 (.string d) none (some (.int .i64 (saidZ d))) none).run Tryz.prog w = .ok (.string (headB d)) w := fun w => slice_h d _ (by omega) l1 w
  have HW1 : Hid (w.alloc (.cells #[.int .i64 0, .int .i64 0, .int .i64 0, .bool false, .int .i64 0, .int .i64 0, .slice none 0 0, .slice none 0 0, .slice none 0 0, .bool false, .int .u64 0, .int .u64 0, .int .i64 0, .int .i64 0, .int .i64 0, .int .i64 0, .slice none 0 0, .int .i64 0, .int .i64 0, .int .i64 0, .int .i64 0, .int .i64 0, .int .i64 0, .bool false, .slice none 0 0, .string ⟨#[]⟩] 52) = W1) := hW1
  clear hs he hW1 hG hT z1 l0 l1 l2 ho
  generalize headB d = D at *
  generalize saidZ d = S at *
  go_enter Tryz.func10, Tryz.ntmps10
  go_wp2_with fail
  rw [HW1.out]
  refine HC.out.mono ?_
  rintro r w1 ⟨rfl, t1, g1, s1⟩
  go_wp2_with fail
  refine (HR.out _).mono ?_
  rintro r w2 ⟨rfl, g2⟩
  have t2 := there_block t1 (g2.block w.heap.size s1)
  have G2 : Below w.heap.size w w2 := btr g1 g2 (Nat.le_refl _)
  have s2 : w.heap.size < w2.heap.size := Nat.lt_of_lt_of_le s1 g2.size
  have hY : (w2.alloc (.cells #[.int .i64 0, .int .i64 0, .int .i64 0, .bool false, .int .i64 0, .int .i64 0, .slice none 0 0, .slice none 0 0, .slice none 0 0, .bool false, .int .u64 0, .int .u64 0, .int .i64 0, .int .i64 0, .int .i64 0, .int .i64 0, .slice none 0 0, .int .i64 0, .int .i64 0, .int .i64 0, .int .i64 0, .int .i64 0, .int .i64 0, .bool false, .slice none 0 0, .string ⟨#[]⟩] 52)).there w2.heap.size 0 26 := there_new w2 (msC ms0) 52
  have HV : Hid (∀ V, Only w2.heap.size (w2.alloc (.cells #[.int .i64 0, .int .i64 0, .int .i64 0, .bool false, .int .i64 0, .int .i64 0, .slice none 0 0, .slice none 0 0, .slice none 0 0, .bool false, .int .u64 0, .int .u64 0, .int .i64 0, .int .i64 0, .int .i64 0, .int .i64 0, .slice none 0 0, .int .i64 0, .int .i64 0, .int .i64 0, .int .i64 0, .int .i64 0, .int .i64 0, .bool false, .slice none 0 0, .string ⟨#[]⟩] 52)) V → V.there w.heap.size 0 26 ∧ Below w2.heap.size w2 V ∧ w2.heap.size < V.heap.size) := (show ∀ V, _ from fun V o => by
    have gA : Below w2.heap.size w2 (w2.alloc (.cells #[.int .i64 0, .int .i64 0, .int .i64 0, .bool false, .int .i64 0, .int .i64 0, .slice none 0 0, .slice none 0 0, .slice none 0 0, .bool false, .int .u64 0, .int .u64 0, .int .i64 0, .int .i64 0, .int .i64 0, .int .i64 0, .slice none 0 0, .int .i64 0, .int .i64 0, .int .i64 0, .int .i64 0, .int .i64 0, .int .i64 0, .bool false, .slice none 0 0, .string ⟨#[]⟩] 52)) := by go_grown
    have gV := o.belowK (Nat.le_refl _) gA
    exact ⟨there_block t2 (gV.block _ s2), gV, by rw [o.size]; simp⟩)
  clear g2 t1 g1
  go_wp2_with (first | (refine store_M rfl (.tmp 7) (.tmp 21) rfl w2.heap.size m rfl rfl hY ?_; intro V bV tV oV) | (refine load_Mg rfl (.tmp 7) rfl w2.heap.size m rfl bV ?_))
  obtain ⟨t3, g3, s3⟩ := HV.out V oV
  have G3 : Below w.heap.size w V := btr G2 g3 (Nat.le_refl _)
  refine (HE.out _).mono ?_
  rintro r w4 ⟨rfl, g4⟩
  have b4 := bV.block (g4.block w2.heap.size s3)
  have t4 := there_block t3 (g4.block w.heap.size (by omega))
  have G4 : Below w.heap.size w w4 := btr G3 g4 (Nat.le_refl _)
  have HX : Hid (∀ V, Only w.heap.size w4 V → Below w.heap.size w V) := (show ∀ V', _ from fun V' o => o.belowK (Nat.le_refl _) G4)
  clear bV tV oV t3 g3 HV hY t2
  go_wp2_with (first | (refine load_Mg rfl (.tmp 7) rfl w2.heap.size m rfl b4 ?_) | (refine store_M rfl (.tmp 2) _ rfl w.heap.size m rfl rfl t4 ?_; intro V2 b5 t5 o5))
  have g5 := HX.out V2 o5
  refine bodyPost_ret (resMee (b := w.heap.size) (m := m) rfl rfl b5) rfl ?_
  exact ⟨rfl, g5⟩
/-- The chapter's example. -/
def exD : ByteArray := ⟨#[4, 2, 0, 8, 0, 0, 0, 7]⟩
def exA : ByteArray := ⟨#[4, 3, 0, 8, 0, 0, 0, 7]⟩
theorem ex_said : saidE exD = 0 := by kernel_rfl
theorem ex_size : saidZ exD = 8 := by kernel_rfl
theorem ex_head : headB exD = exD := by kernel_rfl
theorem ex_kind : hdK exD = 2 := by kernel_rfl
theorem ex_xid : hdX exD = 7 := by kernel_rfl
theorem ex_all : (hdR exD).all = ⟨#[]⟩ := by kernel_rfl
theorem ex_enc : encE 2 7 ⟨#[]⟩ = exD := by kernel_rfl
theorem ex_ans : encE 3 7 ⟨#[]⟩ = exA := by kernel_rfl
theorem read_ex (w : World) : Calls Tryz.prog 27 #[.string exD] w fun e w' => e = .returned (msV ⟨2, 7, ⟨#[]⟩⟩) ∧ Below w.heap.size w w' := by
  have h := read_e exD w (by decide) (by rw [ex_kind]; rfl) (by rw [ex_kind]; rfl)
  rw [ex_kind, ex_xid, ex_all] at h
  exact h
theorem enc_in (w : World) : Calls Tryz.prog 28 #[msV ⟨2, 7, ⟨#[]⟩⟩] w fun e w' => e = .returned (.tuple #[.string exD, .int .i64 0]) ∧ Below w.heap.size w w' := by
  have h := encode_e 2 7 ⟨#[]⟩ w (.inl rfl) (by decide) (by decide) (by decide)
  rw [ex_enc] at h
  exact h
theorem dec_ex (w : World) : Calls Tryz.prog 10 #[.string exD] w fun e w' => e = .returned (.tuple #[msV ⟨2, 7, ⟨#[]⟩⟩, .int .i64 8, .int .i64 0]) ∧ Below w.heap.size w w' := by
  have h := dec_g exD ⟨2, 7, ⟨#[]⟩⟩ w (by decide) ex_said (show ∀ w1, _ by rw [ex_head]; exact read_ex) (show ∀ w1, _ by rw [ex_head]; exact enc_in)
  rw [ex_size] at h
  exact h
theorem no_said : saidE ⟨#[]⟩ = 10 := by kernel_rfl
theorem dec_no (w : World) : Calls Tryz.prog 10 #[.string ⟨#[]⟩] w fun e w' => e = .returned (.tuple #[msV ⟨0, 0, ⟨#[]⟩⟩, .int .i64 0, .int .i64 10]) ∧ Below w.heap.size w w' := by
  have h := dec_early ⟨#[]⟩ w (by decide) (by rw [no_said]; decide)
  rw [no_said] at h
  exact h
theorem enc_ex (w : World) : Calls Tryz.prog 28 #[msV ⟨3, 7, ⟨#[]⟩⟩] w fun e w' => e = .returned (.tuple #[.string exA, .int .i64 0]) ∧ Below w.heap.size w w' := by
  have h := encode_e 3 7 ⟨#[]⟩ w (.inr rfl) (by decide) (by decide) (by decide)
  rw [ex_ans] at h
  exact h
end Go.Proofs.YtoklgdpdeghkpaaGreatDoor
