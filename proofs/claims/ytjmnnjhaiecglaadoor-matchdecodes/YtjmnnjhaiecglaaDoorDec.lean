/-
  What Decode answers, as a contract.
-/
import Derived.Test.YtjmnnjhaiecglaaDoorReadL
import Derived.Test.YtjmnnjhaiecglaaDoorEncode
import Derived.Laws.DeepStrings4
namespace Go.Proofs.YtjmnnjhaiecglaaDoor
open Go.ChangeShapes Go.WideShapes Go.ChangeAt Go.RowKit

theorem readN_half : ∀ (k : Nat) (r : RS), RI r → 2 * (readN k r).length ≤ r.s.size + 1
  | 0, _, _ => by simp [readN]
  | k + 1, r, h => by
    unfold readN
    split
    · rename_i hp
      have ih := readN_half k (restR r) h.rest
      have h2 : (restR r).s.size ≤ (r.skip 2).s.size := by
        have h3 : (r3R r).s.size ≤ (r.skip 2).s.size := Nat.le_trans (RS.skip_size _ _) (RS.skip_size _ _)
        unfold restR
        split
        · exact Nat.le_trans (RS.skip_size _ _) (Nat.le_trans (RS.skip_size _ _) h3)
        · exact Nat.le_trans (RS.skip_size _ _) h3
      have h4 : (r.skip 2).s.size ≤ r.s.size - 2 := by
        have he : r.e = 0 := by
          by_cases he : r.e = 0
          · exact he
          · have := h he; omega
        unfold RS.skip takeS
        have hm : szB 2 = true := by decide
        by_cases hn : (2 : Int) ≤ r.s.size
        · simp only [he, hm, hn, and_self, if_true]
          rw [ByteArray.size_extract]
          have : (2 : Int).toNat = 2 := rfl
          omega
        · simp only [he, hm, hn, and_false, if_true, if_false]
          rw [noB_size]; omega
      rw [List.length_cons]
      by_cases h1 : r.s.size = 1
      · have h0 : (restR r).s.size = 0 := by omega
        have e : readN k (restR r) = [] := by cases k <;> simp [readN, h0]
        rw [e]; simp; omega
      · omega
    · simp
/-- What the bytes say of themselves, the tests that are read of them, and whether they are theirs. -/
def saidV (s : ByteArray) : Int := ((⟨s, 0⟩ : RS).skip 2).num 2
def testsOf (s : ByteArray) : List T := readN (s.extract 4 (saidV s).toNat).size ⟨s.extract 4 (saidV s).toNat, 0⟩
def wholeOk (s : ByteArray) : Prop := 4 ≤ s.size ∧ padV (saidV s) ≤ s.size ∧ 4 ≤ saidV s ∧ rightE (testsOf s) = 0 ∧ encS (testsOf s) = s.extract 0 (padV (saidV s)).toNat
theorem saidV_lt (s : ByteArray) : 0 ≤ saidV s ∧ saidV s < 65536 := by
  have hlt := RS.num_lt ((⟨s, 0⟩ : RS).skip 2) 2 (by omega)
  exact ⟨by simpa [saidV] using hlt.1, by simpa [saidV] using hlt.2⟩
theorem padV_ge (n : Int) : n ≤ padV n := by unfold padV; omega
theorem padV_lt (n : Int) : padV n ≤ n + 7 := by unfold padV; omega

theorem slice_lh (s : ByteArray) (i j : Int) (h0 : 0 ≤ i) (h1 : i ≤ j) (h2 : j ≤ s.size) (w : World) : (Instr.slice 9 (.string s) (some (.int .i64 i)) (some (.int .i64 j)) none).run Tryd.prog w = .ok (.string (s.extract i.toNat j.toNat)) w := by
  rw [run_slice_string_if (h := Tryd.underlying9), if_pos ⟨by omega, h2⟩, if_pos ⟨h0, h1⟩]
theorem slice_h (s : ByteArray) (j : Int) (h0 : 0 ≤ j) (h2 : j ≤ s.size) (w : World) : (Instr.slice 9 (.string s) none (some (.int .i64 j)) none).run Tryd.prog w = .ok (.string (s.extract 0 j.toNat)) w :=
  by rw [run_slice_string_h (ht := Tryd.underlying9) (h0 := h0) (h2 := h2)]
/-- The answer with an error. -/
def Nope (w : World) (k : Int) (e : Ending) (w' : World) : Prop := e = .returned (.tuple #[.slice none 0 0, .int .i64 0, .int .i64 k]) ∧ Below w.heap.size w w'
set_option maxHeartbeats 2000000 in
theorem dec_short (s : ByteArray) (w : World) (h : s.size < 4) : Calls Tryd.prog 23 #[.string s] w (Nope w 10) := by
  have h' : (s.size : Int) < 4 := by omega
  unfold Nope
  go_enter Tryd.func23, Tryd.ntmps23
  go_wp2_with fail
  go_ret3
  exact ⟨rfl, Below.refl _ _⟩
set_option maxHeartbeats 2000000 in
theorem dec_end (s : ByteArray) (w : World) (hs : s.size ≤ 100000) (h : 4 ≤ s.size) (h2 : s.size < padV (saidV s)) : Calls Tryd.prog 23 #[.string s] w (Nope w 10) := by
  have h' : ¬ ((s.size : Int) < 4) := by omega
  obtain ⟨z0, z1⟩ := saidV_lt s
  have HS : Hid (∀ w, Calls Tryd.prog 39 #[.string s] w fun e w' => e = .returned (.int .i64 (saidV s)) ∧ Below w.heap.size w w') := fun w => saidSize_any s w (by unfold maxLen; omega)
  have HP : Hid (∀ w, Calls Tryd.prog 37 #[.int .i64 (saidV s)] w fun e w' => e = .returned (.int .i64 (padV (saidV s))) ∧ w' = w) := fun w => padded_any _ w z0 (by omega)
  unfold Nope
  generalize saidV s = z at *
  generalize padV z = p at *
  go_enter Tryd.func23, Tryd.ntmps23
  go_wp2_with fail
  refine (HS.out _).mono ?_
  rintro x w1 ⟨rfl, g1⟩
  go_wp2_with fail
  refine (HP.out _).mono ?_
  rintro x w2 ⟨rfl, rfl⟩
  go_wp2_with fail
  go_ret3
  exact ⟨rfl, g1⟩
set_option maxHeartbeats 2000000 in
theorem dec_low (s : ByteArray) (w : World) (hs : s.size ≤ 100000) (h : 4 ≤ s.size) (h2 : padV (saidV s) ≤ s.size) (h3 : saidV s < 4) : Calls Tryd.prog 23 #[.string s] w (Nope w 11) := by
  have h' : ¬ ((s.size : Int) < 4) := by omega
  have h2' : ¬ ((s.size : Int) < padV (saidV s)) := by omega
  obtain ⟨z0, z1⟩ := saidV_lt s
  have HS : Hid (∀ w, Calls Tryd.prog 39 #[.string s] w fun e w' => e = .returned (.int .i64 (saidV s)) ∧ Below w.heap.size w w') := fun w => saidSize_any s w (by unfold maxLen; omega)
  have HP : Hid (∀ w, Calls Tryd.prog 37 #[.int .i64 (saidV s)] w fun e w' => e = .returned (.int .i64 (padV (saidV s))) ∧ w' = w) := fun w => padded_any _ w z0 (by omega)
  unfold Nope
  generalize saidV s = z at *
  generalize padV z = p at *
  go_enter Tryd.func23, Tryd.ntmps23
  go_wp2_with fail
  refine (HS.out _).mono ?_
  rintro x w1 ⟨rfl, g1⟩
  go_wp2_with fail
  refine (HP.out _).mono ?_
  rintro x w2 ⟨rfl, rfl⟩
  go_wp2_with fail
  go_ret3
  exact ⟨rfl, g1⟩

set_option maxRecDepth 20000 in
set_option maxHeartbeats 8000000 in
theorem dec_wrong (s : ByteArray) (w : World) (hs : s.size ≤ 1900) (hd : Cd w) (h : 4 ≤ s.size) (h2 : padV (saidV s) ≤ s.size) (h3 : 4 ≤ saidV s) (h4 : rightE (testsOf s) ≠ 0) : Calls Tryd.prog 23 #[.string s] w (Nope w 11) := by
  have h' : ¬ ((s.size : Int) < 4) := by omega
  have h2' : ¬ ((s.size : Int) < padV (saidV s)) := by omega
  have h3' : ¬ (saidV s < 4) := by omega
  have hpz := padV_ge (saidV s)
  obtain ⟨z0, z1⟩ := saidV_lt s
  have HS : Hid (∀ w, Calls Tryd.prog 39 #[.string s] w fun e w' => e = .returned (.int .i64 (saidV s)) ∧ Below w.heap.size w w') := fun w => saidSize_any s w (by unfold maxLen; omega)
  have HP : Hid (∀ w, Calls Tryd.prog 37 #[.int .i64 (saidV s)] w fun e w' => e = .returned (.int .i64 (padV (saidV s))) ∧ w' = w) := fun w => padded_any _ w z0 (by omega)
  have hes : (s.extract 4 (saidV s).toNat).size ≤ 1900 := by rw [ByteArray.size_extract]; omega
  have HL : Hid (∀ w, Cd w → Calls Tryd.prog 40 #[.string (s.extract 4 (saidV s).toNat)] w fun e w' => ∃ a cap, e = .returned (.slice a (testsOf s).length cap) ∧ (testsOf s).length ≤ cap ∧ Ts w' a (testsOf s) ∧ Below w.heap.size w w') := fun w hd => readL_any _ w (by omega) hd
  have hhalf := readN_half (s.extract 4 (saidV s).toNat).size ⟨s.extract 4 (saidV s).toNat, 0⟩ (fun h => absurd rfl h)
  have hll : (testsOf s).length ≤ 1000 := by
    show (readN _ _).length ≤ 1000
    simp only at hhalf
    omega
  have HE : Hid (∀ a cap w, Ts w a (testsOf s) → (testsOf s).length ≤ cap → Cd w → Calls Tryd.prog 21 #[.slice a (testsOf s).length cap] w fun e w' => e = .returned (.tuple #[.string ⟨#[]⟩, .int .i64 (rightE (testsOf s))]) ∧ Below w.heap.size w w') := fun a cap w hT hc hd => by
    have := encode_any a (testsOf s) cap w hT hll hc hd (readN_w _ _)
    unfold encodeS at this; rwa [if_neg h4] at this
  clear hhalf hes hll
  have hsl : ∀ w, (Instr.slice 9 (.string s) (some (.int .i64 4)) (some (.int .i64 (saidV s))) none).run Tryd.prog w = .ok (.string (s.extract 4 (saidV s).toNat)) w := fun w => slice_lh s 4 _ (by omega) h3 (by omega) w
  have hsl2 : ∀ w, (Instr.slice 9 (.string s) none (some (.int .i64 (padV (saidV s)))) none).run Tryd.prog w = .ok (.string (s.extract 0 (padV (saidV s)).toNat)) w := fun w => slice_h s _ (by omega) h2 w
  generalize s.extract 4 (saidV s).toNat = X at *
  generalize s.extract 0 (padV (saidV s)).toNat = Y at *
  generalize testsOf s = L at *
  generalize encS L = E at *
  generalize rightE L = R at *
  generalize saidV s = z at *
  generalize padV z = p at *
  have hR : (R != 0) = true := by simpa using h4
  clear h4
  go_enter Tryd.func23, Tryd.ntmps23
  go_wp2_with fail
  refine (HS.out _).mono ?_
  rintro x w1 ⟨rfl, g1⟩
  go_wp2_with fail
  refine (HP.out _).mono ?_
  rintro x w2 ⟨rfl, rfl⟩
  go_wp2_with fail
  refine (HL.out _ (hd.below g1)).mono ?_
  rintro x w3 ⟨a, cap, rfl, hcap, hT, g3⟩
  have b3 := btr g1 g3 (Nat.le_refl _)
  go_wp2_with fail
  refine (HE.out a cap _ hT hcap (hd.below b3)).mono ?_
  rintro x w4 ⟨rfl, g4⟩
  have b4 := btr b3 g4 (Nat.le_refl _)
  go_wp2_with fail
  go_ret3
  exact ⟨rfl, b4⟩

set_option maxRecDepth 20000 in
set_option maxHeartbeats 8000000 in
theorem dec_other (s : ByteArray) (w : World) (hs : s.size ≤ 1900) (hd : Cd w) (h : 4 ≤ s.size) (h2 : padV (saidV s) ≤ s.size) (h3 : 4 ≤ saidV s) (h4 : rightE (testsOf s) = 0) (h5 : encS (testsOf s) ≠ s.extract 0 (padV (saidV s)).toNat) : Calls Tryd.prog 23 #[.string s] w (Nope w 11) := by
  have h' : ¬ ((s.size : Int) < 4) := by omega
  have h2' : ¬ ((s.size : Int) < padV (saidV s)) := by omega
  have h3' : ¬ (saidV s < 4) := by omega
  have hpz := padV_ge (saidV s)
  obtain ⟨z0, z1⟩ := saidV_lt s
  have HS : Hid (∀ w, Calls Tryd.prog 39 #[.string s] w fun e w' => e = .returned (.int .i64 (saidV s)) ∧ Below w.heap.size w w') := fun w => saidSize_any s w (by unfold maxLen; omega)
  have HP : Hid (∀ w, Calls Tryd.prog 37 #[.int .i64 (saidV s)] w fun e w' => e = .returned (.int .i64 (padV (saidV s))) ∧ w' = w) := fun w => padded_any _ w z0 (by omega)
  have hes : (s.extract 4 (saidV s).toNat).size ≤ 1900 := by rw [ByteArray.size_extract]; omega
  have HL : Hid (∀ w, Cd w → Calls Tryd.prog 40 #[.string (s.extract 4 (saidV s).toNat)] w fun e w' => ∃ a cap, e = .returned (.slice a (testsOf s).length cap) ∧ (testsOf s).length ≤ cap ∧ Ts w' a (testsOf s) ∧ Below w.heap.size w w') := fun w hd => readL_any _ w (by omega) hd
  have hhalf := readN_half (s.extract 4 (saidV s).toNat).size ⟨s.extract 4 (saidV s).toNat, 0⟩ (fun h => absurd rfl h)
  have hll : (testsOf s).length ≤ 1000 := by
    show (readN _ _).length ≤ 1000
    simp only at hhalf
    omega
  have HE : Hid (∀ a cap w, Ts w a (testsOf s) → (testsOf s).length ≤ cap → Cd w → Calls Tryd.prog 21 #[.slice a (testsOf s).length cap] w fun e w' => e = .returned (.tuple #[.string (encS (testsOf s)), .int .i64 0]) ∧ Below w.heap.size w w') := fun a cap w hT hc hd => by
    have := encode_any a (testsOf s) cap w hT hll hc hd (readN_w _ _)
    unfold encodeS at this; rwa [if_pos h4, h4] at this
  clear hhalf hes hll
  have hsl : ∀ w, (Instr.slice 9 (.string s) (some (.int .i64 4)) (some (.int .i64 (saidV s))) none).run Tryd.prog w = .ok (.string (s.extract 4 (saidV s).toNat)) w := fun w => slice_lh s 4 _ (by omega) h3 (by omega) w
  have hsl2 : ∀ w, (Instr.slice 9 (.string s) none (some (.int .i64 (padV (saidV s)))) none).run Tryd.prog w = .ok (.string (s.extract 0 (padV (saidV s)).toNat)) w := fun w => slice_h s _ (by omega) h2 w
  generalize s.extract 4 (saidV s).toNat = X at *
  generalize s.extract 0 (padV (saidV s)).toNat = Y at *
  generalize testsOf s = L at *
  generalize encS L = E at *
  clear h4
  generalize saidV s = z at *
  generalize padV z = p at *
  have hq : (!E.toList == Y.toList) = true := by
    rw [Bool.not_eq_true', beq_eq_false_iff_ne]
    intro hh
    apply h5
    apply ba_ext
    rw [← ByteArray.toList_eq, ← ByteArray.toList_eq]
    exact hh
  clear h5
  go_enter Tryd.func23, Tryd.ntmps23
  go_wp2_with fail
  refine (HS.out _).mono ?_
  rintro x w1 ⟨rfl, g1⟩
  go_wp2_with fail
  refine (HP.out _).mono ?_
  rintro x w2 ⟨rfl, rfl⟩
  go_wp2_with fail
  refine (HL.out _ (hd.below g1)).mono ?_
  rintro x w3 ⟨a, cap, rfl, hcap, hT, g3⟩
  have b3 := btr g1 g3 (Nat.le_refl _)
  go_wp2_with fail
  refine (HE.out a cap _ hT hcap (hd.below b3)).mono ?_
  rintro x w4 ⟨rfl, g4⟩
  have b4 := btr b3 g4 (Nat.le_refl _)
  go_wp2_with fail
  go_ret3
  exact ⟨rfl, b4⟩

set_option maxRecDepth 20000 in
set_option maxHeartbeats 8000000 in
theorem dec_ok (s : ByteArray) (w : World) (hs : s.size ≤ 1900) (hd : Cd w) (h : 4 ≤ s.size) (h2 : padV (saidV s) ≤ s.size) (h3 : 4 ≤ saidV s) (h4 : rightE (testsOf s) = 0) (h5 : encS (testsOf s) = s.extract 0 (padV (saidV s)).toNat) : Calls Tryd.prog 23 #[.string s] w fun e w' => ∃ a cap, e = .returned (.tuple #[.slice a (testsOf s).length cap, .int .i64 (padV (saidV s)), .int .i64 0]) ∧ (testsOf s).length ≤ cap ∧ Ts w' a (testsOf s) ∧ Below w.heap.size w w' := by
  have h' : ¬ ((s.size : Int) < 4) := by omega
  have h2' : ¬ ((s.size : Int) < padV (saidV s)) := by omega
  have h3' : ¬ (saidV s < 4) := by omega
  have hpz := padV_ge (saidV s)
  obtain ⟨z0, z1⟩ := saidV_lt s
  have HS : Hid (∀ w, Calls Tryd.prog 39 #[.string s] w fun e w' => e = .returned (.int .i64 (saidV s)) ∧ Below w.heap.size w w') := fun w => saidSize_any s w (by unfold maxLen; omega)
  have HP : Hid (∀ w, Calls Tryd.prog 37 #[.int .i64 (saidV s)] w fun e w' => e = .returned (.int .i64 (padV (saidV s))) ∧ w' = w) := fun w => padded_any _ w z0 (by omega)
  have hes : (s.extract 4 (saidV s).toNat).size ≤ 1900 := by rw [ByteArray.size_extract]; omega
  have HL : Hid (∀ w, Cd w → Calls Tryd.prog 40 #[.string (s.extract 4 (saidV s).toNat)] w fun e w' => ∃ a cap, e = .returned (.slice a (testsOf s).length cap) ∧ (testsOf s).length ≤ cap ∧ Ts w' a (testsOf s) ∧ Below w.heap.size w w') := fun w hd => readL_any _ w (by omega) hd
  have hhalf := readN_half (s.extract 4 (saidV s).toNat).size ⟨s.extract 4 (saidV s).toNat, 0⟩ (fun h => absurd rfl h)
  have hll : (testsOf s).length ≤ 1000 := by
    show (readN _ _).length ≤ 1000
    simp only at hhalf
    omega
  have HE : Hid (∀ a cap w, Ts w a (testsOf s) → (testsOf s).length ≤ cap → Cd w → Calls Tryd.prog 21 #[.slice a (testsOf s).length cap] w fun e w' => e = .returned (.tuple #[.string (encS (testsOf s)), .int .i64 0]) ∧ Below w.heap.size w w') := fun a cap w hT hc hd => by
    have := encode_any a (testsOf s) cap w hT hll hc hd (readN_w _ _)
    unfold encodeS at this; rwa [if_pos h4, h4] at this
  clear hhalf hes hll
  have hsl : ∀ w, (Instr.slice 9 (.string s) (some (.int .i64 4)) (some (.int .i64 (saidV s))) none).run Tryd.prog w = .ok (.string (s.extract 4 (saidV s).toNat)) w := fun w => slice_lh s 4 _ (by omega) h3 (by omega) w
  have hsl2 : ∀ w, (Instr.slice 9 (.string s) none (some (.int .i64 (padV (saidV s)))) none).run Tryd.prog w = .ok (.string (s.extract 0 (padV (saidV s)).toNat)) w := fun w => slice_h s _ (by omega) h2 w
  generalize s.extract 4 (saidV s).toNat = X at *
  generalize s.extract 0 (padV (saidV s)).toNat = Y at *
  generalize testsOf s = L at *
  generalize encS L = E at *
  clear h4
  generalize saidV s = z at *
  generalize padV z = p at *
  have hq : (!E.toList == Y.toList) = false := by rw [h5]; simp
  clear h5
  go_enter Tryd.func23, Tryd.ntmps23
  go_wp2_with fail
  refine (HS.out _).mono ?_
  rintro x w1 ⟨rfl, g1⟩
  go_wp2_with fail
  refine (HP.out _).mono ?_
  rintro x w2 ⟨rfl, rfl⟩
  go_wp2_with fail
  refine (HL.out _ (hd.below g1)).mono ?_
  rintro x w3 ⟨a, cap, rfl, hcap, hT, g3⟩
  have b3 := btr g1 g3 (Nat.le_refl _)
  go_wp2_with fail
  refine (HE.out a cap _ hT hcap (hd.below b3)).mono ?_
  rintro x w4 ⟨rfl, g4⟩
  have b4 := btr b3 g4 (Nat.le_refl _)
  go_wp2_with fail
  go_ret3
  exact ⟨a, cap, rfl, hcap, hT.below g4, b4⟩

def decE (s : ByteArray) : Int := if s.size < 4 then 10 else if (s.size : Int) < padV (saidV s) then 10 else 11
theorem dec_nope (s : ByteArray) (w : World) (hs : s.size ≤ 1900) (hd : Cd w) (h : ¬ wholeOk s) : Calls Tryd.prog 23 #[.string s] w (Nope w (decE s)) := by
  unfold decE
  by_cases h1 : s.size < 4
  · rw [if_pos h1]; exact dec_short s w h1
  · rw [if_neg h1]
    by_cases h2 : (s.size : Int) < padV (saidV s)
    · rw [if_pos h2]; exact dec_end s w (by omega) (by omega) h2
    · rw [if_neg h2]
      by_cases h3 : saidV s < 4
      · exact dec_low s w (by omega) (by omega) (by omega) h3
      · by_cases h4 : rightE (testsOf s) = 0
        · by_cases h5 : encS (testsOf s) = s.extract 0 (padV (saidV s)).toNat
          · exact absurd ⟨by omega, by omega, by omega, h4, h5⟩ h
          · exact dec_other s w hs hd (by omega) (by omega) (by omega) h4 h5
        · exact dec_wrong s w hs hd (by omega) (by omega) (by omega) h4
theorem dec_yes (s : ByteArray) (w : World) (hs : s.size ≤ 1900) (hd : Cd w) (h : wholeOk s) : Calls Tryd.prog 23 #[.string s] w fun e w' => ∃ a cap, e = .returned (.tuple #[.slice a (testsOf s).length cap, .int .i64 (padV (saidV s)), .int .i64 0]) ∧ (testsOf s).length ≤ cap ∧ Ts w' a (testsOf s) ∧ Below w.heap.size w w' := by
  obtain ⟨h1, h2, h3, h4, h5⟩ := h
  exact dec_ok s w hs hd h1 h2 h3 h4 h5
end Go.Proofs.YtjmnnjhaiecglaaDoor
