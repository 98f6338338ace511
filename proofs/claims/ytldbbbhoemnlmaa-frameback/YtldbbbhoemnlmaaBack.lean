/-
  The walk of the law FrameBack.
-/
import Derived.Test.YtldbbbhoemnlmaaTrip
namespace Go.Proofs.Ytldbbbhoemnlmaa
open Go.ChangeShapes Go.WideShapes Go.ChangeAt Go.RowKit

theorem sumA_no (p : Pk) (h : p.ty ≠ 2048) : (sumA p : Int) = 0 := by unfold sumA; rw [if_neg h]; rfl
theorem sumB_no (p : Pk) (h : ¬ (p.ty = 2048 ∧ hasB p = true)) : (sumB p : Int) = 0 := by
  unfold sumB partSumV
  split
  · rename_i ht
    rw [if_neg (fun x => h ⟨ht, x⟩)]; rfl
  · rfl
/-- The packet of a packet's bytes is it. -/
theorem parse_bytes (p : Pk) (hw : Wf p) (hs : p.data.size ≤ 3000) (h : bytesE p = 0) : parseE (bytesS p) = 0 ∧ parseP (bytesS p) = p ∧ (bytesS p).size ≤ 1500 := by
  unfold bytesE at h
  by_cases hr : rightB p = true
  · rw [if_pos hr] at h
    by_cases hg : aheadV p + p.data.size ≤ 1500
    · have e : bytesS p = writeV p (sumA p) (sumB p) := if_pos ⟨hr, hg⟩
      have z := writeV_size p (sumA p) (sumB p) (right_pro hw hr)
      obtain ⟨r1, r2, r3⟩ := read_write p (sumA p) (sumB p) hw hr hs (by omega) (by have := sumA_le p; omega) (by omega) (by have := sumB_le p; omega) (sumA_no p) (sumB_no p)
      have z' : (bytesS p).size ≤ 1500 := by rw [e, z]; exact hg
      have hf : fits (bytesS p) := by unfold fits; rw [e, r1, r2, r3]; exact ⟨hr, rfl⟩
      have hm : summed (bytesS p) := by unfold summed; rw [e, r1, r2, r3]; exact ⟨rfl, rfl⟩
      refine ⟨by unfold parseE; rw [if_pos z', if_pos hf, if_pos hm], ?_, z'⟩
      unfold parseP; rw [if_pos ⟨z', hf, hm⟩, e, r1]
    · rw [if_neg hg] at h; omega
  · rw [if_neg hr] at h; omega
theorem bytes_none (p : Pk) (h : bytesE p ≠ 0) : bytesS p = noBytes := by
  unfold bytesE at h
  unfold bytesS
  split at h
  · rename_i hr
    split at h
    · exact absurd rfl h
    · rename_i hg
      rw [if_neg (fun x => hg x.2)]
  · rename_i hr
    rw [if_neg (fun x => hr x.1)]
/-- What is read is written again. -/
theorem bytes_parse (s : ByteArray) (h : parseE s = 0) : Wf (parseP s) ∧ (parseP s).data.size ≤ 3000 ∧ bytesE (parseP s) = 0 ∧ bytesS (parseP s) = s := by
  unfold parseE at h
  by_cases h1 : s.size ≤ 1500
  · rw [if_pos h1] at h
    by_cases h2 : fits s
    · rw [if_pos h2] at h
      by_cases h3 : summed s
      · have e : parseP s = readV s := if_pos ⟨h1, h2, h3⟩
        rw [e]
        have hw := readV_wf s
        have hz := readV_size s
        obtain ⟨hr, hs⟩ := h2
        obtain ⟨ha, hb⟩ := h3
        rw [ha, hb] at hs
        have z := writeV_size (readV s) (sumA (readV s)) (sumB (readV s)) (right_pro hw hr)
        rw [hs] at z
        have hg : aheadV (readV s) + (readV s).data.size ≤ 1500 := by omega
        refine ⟨hw, by omega, by unfold bytesE; rw [if_pos hr, if_pos hg], ?_⟩
        unfold bytesS; rw [if_pos ⟨hr, hg⟩, hs]
      · rw [if_neg h3] at h; omega
    · rw [if_neg h2] at h; omega
  · rw [if_neg h1] at h; omega
theorem parse_none (s : ByteArray) (h : parseE s ≠ 0) : parseP s = pk0 := by
  unfold parseE at h
  refine if_neg (fun ⟨a, b, c⟩ => ?_)
  rw [if_pos a, if_pos b, if_pos c] at h
  exact h rfl

set_option maxHeartbeats 2000000 in
theorem back11 (p : Pk) (s : ByteArray) (w : World) (hp : (p.data.size : Int) ≤ 3000) (hs : (s.size : Int) ≤ 3000) (t : ByteArray) (H1 : Hid (∀ w, Calls Try.prog 9 #[pkV p] w fun x w' => x = .returned (.tuple #[.string t, .int .i64 0]) ∧ Below w.heap.size w w')) (H2 : Hid (∀ w, Calls Try.prog 11 #[.string t] w fun x w' => x = .returned (.tuple #[pkV p, .int .i64 0]) ∧ Below w.heap.size w w')) (q : Pk) (H3 : Hid (∀ w, Calls Try.prog 11 #[.string s] w fun x w' => x = .returned (.tuple #[pkV q, .int .i64 0]) ∧ Below w.heap.size w w')) (H4 : Hid (∀ w, Calls Try.prog 9 #[pkV q] w fun x w' => x = .returned (.tuple #[.string s, .int .i64 0]) ∧ Below w.heap.size w w')) :
    Calls Try.prog 5 #[pkV p, .string s] w fun x w' => x = .returned (.bool true) ∧ Below w.heap.size w w' := by
  go_enter Try.func5, Try.ntmps5
  go_wp2_with fail
  refine (H1.out _).mono ?_
  rintro x w1 ⟨rfl, g1⟩
  have G1 : Below w.heap.size w w1 := btr (by go_grown) g1 (by simp)
  have B1 := (Bx.new w p).below (by simp) g1
  have L1 : w.heap.size < w1.heap.size := Nat.lt_of_lt_of_le (by simp) g1.size
  clear g1
  go_wp2_with fail
  refine (H2.out _).mono ?_
  rintro x w2 ⟨rfl, g2⟩
  have G2 := btr G1 g2 (Nat.le_refl _)
  have B2 : Bx (bx w2 p) w.heap.size p := (B1.below L1 g2).below (Nat.lt_of_lt_of_le L1 g2.size) (by go_grown)
  clear B1
  obtain ⟨h0, h1, h2, h3, h4, h5, h6, h7, h8, h9, h10⟩ := B2
  go_wp2_with fail
  refine (H3.out _).mono ?_
  rintro x w3 ⟨rfl, g3⟩
  have G3 : Below w.heap.size w w3 := btr (btr G2 (by go_grown) (Nat.le_refl _)) g3 (Nat.le_refl _)
  clear g3
  go_wp2_with fail
  refine (H4.out _).mono ?_
  rintro x w4 ⟨rfl, g4⟩
  have G4 : Below w.heap.size w w4 := btr (btr G3 (by go_grown) (Nat.le_refl _)) g4 (Nat.le_refl _)
  clear g4
  go_wp2_with fail
  refine (awake_any _).mono ?_
  rintro x w5 ⟨rfl, g5⟩
  go_wp2_with fail
  go_ret
  exact ⟨rfl, btr G4 g5 (Nat.le_refl _)⟩

set_option maxHeartbeats 2000000 in
theorem back10 (p : Pk) (s : ByteArray) (w : World) (hp : (p.data.size : Int) ≤ 3000) (hs : (s.size : Int) ≤ 3000) (t : ByteArray) (H1 : Hid (∀ w, Calls Try.prog 9 #[pkV p] w fun x w' => x = .returned (.tuple #[.string t, .int .i64 0]) ∧ Below w.heap.size w w')) (H2 : Hid (∀ w, Calls Try.prog 11 #[.string t] w fun x w' => x = .returned (.tuple #[pkV p, .int .i64 0]) ∧ Below w.heap.size w w')) (f : Int) (hf : (f != 0) = true) (H3 : Hid (∀ w, Calls Try.prog 11 #[.string s] w fun x w' => x = .returned (.tuple #[pkV ⟨0, 0, 0, 0, 0, 0, 0, 0, 0, 0, ⟨#[]⟩⟩, .int .i64 f]) ∧ Below w.heap.size w w')) :
    Calls Try.prog 5 #[pkV p, .string s] w fun x w' => x = .returned (.bool true) ∧ Below w.heap.size w w' := by
  go_enter Try.func5, Try.ntmps5
  go_wp2_with fail
  refine (H1.out _).mono ?_
  rintro x w1 ⟨rfl, g1⟩
  have G1 : Below w.heap.size w w1 := btr (by go_grown) g1 (by simp)
  have B1 := (Bx.new w p).below (by simp) g1
  have L1 : w.heap.size < w1.heap.size := Nat.lt_of_lt_of_le (by simp) g1.size
  clear g1
  go_wp2_with fail
  refine (H2.out _).mono ?_
  rintro x w2 ⟨rfl, g2⟩
  have G2 := btr G1 g2 (Nat.le_refl _)
  have B2 : Bx (bx w2 p) w.heap.size p := (B1.below L1 g2).below (Nat.lt_of_lt_of_le L1 g2.size) (by go_grown)
  clear B1
  obtain ⟨h0, h1, h2, h3, h4, h5, h6, h7, h8, h9, h10⟩ := B2
  go_wp2_with fail
  refine (H3.out _).mono ?_
  rintro x w3 ⟨rfl, g3⟩
  have G3 : Below w.heap.size w w3 := btr (btr G2 (by go_grown) (Nat.le_refl _)) g3 (Nat.le_refl _)
  clear g3
  go_wp2_with fail
  refine (awake_any _).mono ?_
  rintro x w5 ⟨rfl, g5⟩
  go_wp2_with fail
  go_ret
  exact ⟨rfl, btr (btr G3 (by go_grown) (Nat.le_refl _)) g5 (Nat.le_refl _)⟩

set_option maxHeartbeats 2000000 in
theorem back01 (p : Pk) (s : ByteArray) (w : World) (hp : (p.data.size : Int) ≤ 3000) (hs : (s.size : Int) ≤ 3000) (e : Int) (he : (e == 0) = false) (H1 : Hid (∀ w, Calls Try.prog 9 #[pkV p] w fun x w' => x = .returned (.tuple #[.string ⟨#[]⟩, .int .i64 e]) ∧ Below w.heap.size w w')) (q : Pk) (H3 : Hid (∀ w, Calls Try.prog 11 #[.string s] w fun x w' => x = .returned (.tuple #[pkV q, .int .i64 0]) ∧ Below w.heap.size w w')) (H4 : Hid (∀ w, Calls Try.prog 9 #[pkV q] w fun x w' => x = .returned (.tuple #[.string s, .int .i64 0]) ∧ Below w.heap.size w w')) :
    Calls Try.prog 5 #[pkV p, .string s] w fun x w' => x = .returned (.bool true) ∧ Below w.heap.size w w' := by
  go_enter Try.func5, Try.ntmps5
  go_wp2_with fail
  refine (H1.out _).mono ?_
  rintro x w1 ⟨rfl, g1⟩
  have G1 : Below w.heap.size w w1 := btr (by go_grown) g1 (by simp)
  clear g1
  go_wp2_with fail
  refine (H3.out _).mono ?_
  rintro x w3 ⟨rfl, g3⟩
  have G3 : Below w.heap.size w w3 := btr (btr G1 (by go_grown) (Nat.le_refl _)) g3 (Nat.le_refl _)
  clear g3
  go_wp2_with fail
  refine (H4.out _).mono ?_
  rintro x w4 ⟨rfl, g4⟩
  have G4 : Below w.heap.size w w4 := btr (btr G3 (by go_grown) (Nat.le_refl _)) g4 (Nat.le_refl _)
  clear g4
  go_wp2_with fail
  refine (awake_any _).mono ?_
  rintro x w5 ⟨rfl, g5⟩
  go_wp2_with fail
  go_ret
  exact ⟨rfl, btr G4 g5 (Nat.le_refl _)⟩

set_option maxHeartbeats 2000000 in
theorem back00 (p : Pk) (s : ByteArray) (w : World) (hp : (p.data.size : Int) ≤ 3000) (hs : (s.size : Int) ≤ 3000) (e : Int) (he : (e == 0) = false) (H1 : Hid (∀ w, Calls Try.prog 9 #[pkV p] w fun x w' => x = .returned (.tuple #[.string ⟨#[]⟩, .int .i64 e]) ∧ Below w.heap.size w w')) (f : Int) (hf : (f != 0) = true) (H3 : Hid (∀ w, Calls Try.prog 11 #[.string s] w fun x w' => x = .returned (.tuple #[pkV ⟨0, 0, 0, 0, 0, 0, 0, 0, 0, 0, ⟨#[]⟩⟩, .int .i64 f]) ∧ Below w.heap.size w w')) :
    Calls Try.prog 5 #[pkV p, .string s] w fun x w' => x = .returned (.bool true) ∧ Below w.heap.size w w' := by
  go_enter Try.func5, Try.ntmps5
  go_wp2_with fail
  refine (H1.out _).mono ?_
  rintro x w1 ⟨rfl, g1⟩
  have G1 : Below w.heap.size w w1 := btr (by go_grown) g1 (by simp)
  clear g1
  go_wp2_with fail
  refine (H3.out _).mono ?_
  rintro x w3 ⟨rfl, g3⟩
  have G3 : Below w.heap.size w w3 := btr (btr G1 (by go_grown) (Nat.le_refl _)) g3 (Nat.le_refl _)
  clear g3
  go_wp2_with fail
  refine (awake_any _).mono ?_
  rintro x w5 ⟨rfl, g5⟩
  go_wp2_with fail
  go_ret
  exact ⟨rfl, btr (btr G3 (by go_grown) (Nat.le_refl _)) g5 (Nat.le_refl _)⟩

set_option maxHeartbeats 1000000 in
theorem back_big (p : Pk) (s : ByteArray) (w : World) (h : (3000 : Int) < (p.data.size : Int) ∨ (3000 : Int) < (s.size : Int)) :
    Calls Try.prog 5 #[pkV p, .string s] w fun x w' => x = .returned (.bool true) ∧ Below w.heap.size w w' := by
  by_cases h1 : (3000 : Int) < (p.data.size : Int)
  · clear h
    go_enter Try.func5, Try.ntmps5
    go_wp2_with fail
    refine (awake_any _).mono ?_
    rintro x w5 ⟨rfl, g5⟩
    go_wp2_with fail
    go_ret
    exact ⟨rfl, btr (by go_grown) g5 (by simp)⟩
  · have h2 : (3000 : Int) < (s.size : Int) := by omega
    have h3 : (p.data.size : Int) ≤ 3000 := by omega
    clear h h1
    go_enter Try.func5, Try.ntmps5
    go_wp2_with fail
    refine (awake_any _).mono ?_
    rintro x w5 ⟨rfl, g5⟩
    go_wp2_with fail
    go_ret
    exact ⟨rfl, btr (by go_grown) g5 (by simp)⟩

theorem back_walk (p : Pk) (s : ByteArray) (w : World) (hw : Wf p) (_ : p.data.size ≤ maxLen) (hs : s.size ≤ maxLen) :
    Calls Try.prog 5 #[pkV p, .string s] w fun x w' => x = .returned (.bool true) ∧ Below w.heap.size w w' := by
  by_cases h1 : (3000 : Int) < (p.data.size : Int) ∨ (3000 : Int) < (s.size : Int)
  · exact back_big p s w h1
  have hp : (p.data.size : Int) ≤ 3000 := by omega
  have hz : (s.size : Int) ≤ 3000 := by omega
  have HB := fun w => bytesP_any p w hw (by omega)
  have HP := fun w => parse_any s w hs
  by_cases hE : bytesE p = 0
  · obtain ⟨e1, e2, e3⟩ := parse_bytes p hw (by omega) hE
    have HT := fun w => parse_any (bytesS p) w (by unfold maxLen; omega)
    rw [hE] at HB
    rw [e1, e2] at HT
    by_cases hF : parseE s = 0
    · obtain ⟨f1, f2, f3, f4⟩ := bytes_parse s hF
      have HQ := fun w => bytesP_any (parseP s) w f1 f2
      rw [f3, f4] at HQ
      rw [hF] at HP
      exact back11 p s w hp hz _ HB HT _ HP HQ
    · rw [parse_none s hF] at HP
      exact back10 p s w hp hz _ HB HT _ (by simpa using hF) HP
  · rw [bytes_none p hE] at HB
    by_cases hF : parseE s = 0
    · obtain ⟨f1, f2, f3, f4⟩ := bytes_parse s hF
      have HQ := fun w => bytesP_any (parseP s) w f1 f2
      rw [f3, f4] at HQ
      rw [hF] at HP
      exact back01 p s w hp hz _ (by simpa using hE) HB _ HP HQ
    · rw [parse_none s hF] at HP
      exact back00 p s w hp hz _ (by simpa using hE) HB _ (by simpa using hF) HP
end Go.Proofs.Ytldbbbhoemnlmaa
